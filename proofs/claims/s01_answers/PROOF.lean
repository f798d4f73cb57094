import PyProof.Rows.All
import Wide.All
import OpenK.AllK
import Wide.FinOn
import PyProof.EqAt
import PyProof.EqKinds
import PyProof.TupleCall
import KE.BitLaws
import KE.KDictSum
import PyProof.Rows.SortShellAny
import PySem.SetOps
import PyProof.Rows.SetFrom
import VbptanSpec
import PySem.Challenge.RW_issuerolls_s01_answers
import PyVbptan
import Open.SpecLaws
import KE.OsHead
import KE.OsGo
set_option Elab.async false
set_option linter.all false
set_option maxRecDepth 100000
set_option maxHeartbeats 4000000
def aa:=@PySem.wpAny_bind
def af:=@PySem.Heap.get?_push_of_some
def ai.{u,v}:=@List.length_map.{u,v}
def ak:=@PySem.wpAny_pure
def ao.{u}:=@if_neg.{u}
def aq:=@Nat.le_refl
def au.{u}:=@List.length_append.{u}
def az.{u}:=@List.length_cons.{u}
def aB.{u}:=@if_pos.{u}
def aC:=@decide_eq_true
def aE:=@PySem.Heap.get?_push_size
def aF:=@PySem.Heap.lt_size
def aG.{u}:=@List.mem_cons_of_mem.{u}
def aH:=@of_decide_eq_true
def aJ.{u}:=@Array.length_toList.{u}
def aK:=@decide_eq_false
def aL.{u}:=@List.mem_cons_self.{u}
def aM.{u}:=@List.getElem?_eq_getElem.{u}
def aP:=@Nat.le_trans
def aQ.{u}:=@Option.some.inj.{u}
def aT:=@Nat.ne_of_lt
def aU:=@Bool.false_ne_true
def aV.{u,v}:=@List.map_cons.{u,v}
def aX.{u,v}:=@List.map_append.{u,v}
def aZ:=@decide_eq_true_iff
def bf.{u,v}:=@List.getElem?_map.{u,v}
def bg:=@PySem.Paired.length
def bq.{u}:=@List.append_nil.{u}
def br:=@Nat.lt_of_lt_of_le
def bu:=@Nat.zero_le
def bw.{u}:=@List.append_assoc.{u}
def bB:=@Bool.and_eq_true
def bG.{u}:=@List.size_toArray.{u}
def bL.{u}:=@List.take_length.{u}
def bN.{u}:=@List.take_of_length_le.{u}
def bO:=@PySem.Heap.get?_update_other
def bP.{u}:=@Ne.symm.{u}
def bQ:=@PySem.wpAny_setField_rec
def bR:=@PySem.mem_of_lookup
def bS:=@PySem.wpAny_loadPart_at
def bT:=@PySem.Heap.size_push
def bU:=@PySem.wpAny_call_entry
def bV.{u,v}:=@List.mem_map_of_mem.{u,v}
def bW.{u}:=@List.mem_of_getElem?.{u}
def bX:=@PySem.Paired.mono
def bZ:=@PySem.wpAny_callSpecial?_slot
def b4.{u}:=@List.length_take.{u}
def b9.{u}:=@List.length_filter_le.{u}
def cz.{u}:=@Array.getElem?_eq_getElem.{u}
def cA:=@PySem.wpAny_field
def cD.{u}:=@List.filter_cons.{u}
def cG:=@PySem.wpAny_newObj_type
def cH:=@PySem.PassesOwn.never
def cJ:=@Int.toNat_natCast
def cM:=@Nat.lt_of_le_of_lt
def cO.{u,v}:=@List.flatMap_cons.{u,v}
def cR:=@Bool.eq_iff_iff
def cU:=@PySem.Heap.get?_update_self
def cV:=@Nat.lt_irrefl
def cX.{u,v,w}:=@List.map_map.{u,v,w}
def cY.{u,v}:=@List.pairwise_map.{u,v}
def cZ.{u}:=@List.eq_nil_of_length_eq_zero.{u}
def dg.{u}:=@List.pairwise_cons.{u}
def di:=@PySem.wpAny_mono
def dj.{u}:=@List.length_nil.{u}
def dz:=@Nat.ne_of_gt
def dB:=@PySem.wpAny_holding
def dG:=@PySem.wpAny_setState_of
def dH:=@PySem.wpAny_dictEntries
def dO:=@PyProof.Rows.take_snoc
def dP.{u}:=@List.perm_ext_iff_of_nodup.{u}
def dQ.{u}:=@List.find?_cons.{u}
def dR:=@PySem.Calls.spliced_cons
def dX.{u}:=@List.drop_eq_getElem_cons.{u}
def dZ:=@PySem.wpAny_isInstance
def ee:=@PySem.Heap.SameBut.update
def ef.{u}:=@List.mem_append_right.{u}
def eF:=@PySem.wpAny_truthy_bool
def eN.{u,v}:=@List.filterMap_cons_some.{u,v}
def eZ:=@PySem.F.plain_max_loop
def ff.{u}:=@List.any_cons.{u}
def fj.{u}:=@List.filter_sublist.{u}
def fu:=@PySem.Calls.callWith_builtin
def fz.{u,v}:=@List.flatMap_append.{u,v}
def fB.{u}:=@List.mem_of_find?_eq_some.{u}
def fC:=@Nat.lt_succ_self
def fH.{u}:=@List.filter_append.{u}
def fL:=@PySem.wpAny_Call_Name_kw
def fR:=@PySem.F.plainAttrs_dict
def fS:=@Nat.lt_succ_of_lt
def fU:=@List.length_range
def fV.{u,v}:=@List.filterMap_cons_none.{u,v}
def fY:=@PySem.wpAny_typeLookup_exc
def fZ:=@PySem.wpAny_seqItems
def f6:=@PySem.codeAny_call_builtin
def f7:=@PySem.Calls.evalArgs_plain
def gj:=@PyProof.Rows.callWith_type1
def gw:=@PySem.wpAny_Call_method
def gy.{u}:=@List.length_reverse.{u}
def gz:=@Bool.not_eq_true
def gJ:=@PySem.F.slot_dict_get
def gM:=@PySem.wpAny_attempt
def gO.{u}:=@List.take_append_drop.{u}
def gW:=@PySem.tupleKind_room_in1
def gX:=@PySem.Obj.data_mapFields
def gY:=@Nat.le_succ
def gZ:=@PySem.builtinLookup_eq_fast
def g7.{u}:=@List.filter_nil.{u}
def g8:=@Bool.true_and
def g9:=@Bool.or_false
def iK:=@PySem.wpAny_dictEpoch
def iL.{u}:=@List.mem_cons.{u}
def iO:=@PySem.Paired.snoc
def iP:=@PySem.Calls.spliced_nil
def iW.{u}:=@List.length_drop.{u}
def i7:=@PySem.W.ns_none_of
def i8:=@Bool.false_eq_true
def jg:=@PySem.wpAny_isSubtype_exc
def jo.{u}:=@LawfulBEq.eq_of_beq.{u}
def jq:=@PySem.wpAny_typeNameOfWhole_itemiter
def jr:=@PySem.wpAny_setField
def jt:=@PySem.wpAny_askSetting
def ju.{u,v}:=@List.lookup_cons.{u,v}
def jw.{u}:=@List.getElem?_set_self.{u}
def jx.{u}:=@Array.getElem?_eq_none.{u}
def jL:=@PySem.wpAny_typeNameOfWhole_keyiter
def jM:=@PySem.wpAny_of_eq
def jN:=@PySem.sizeLine_eq
def jO:=@PySem.F.slot_dict_itemiterator_next
def jP.{u}:=@List.dropLast_concat_getLast.{u}
def jQ:=@PySem.codeAny_mono
def jR:=@PySem.call_meetsIn
def jS:=@PySem.Code.quiet_builtin
def jT.{u}:=@Array.getElem?_toList.{u}
def jU:=@PySem.wpAny_passesOwn
def jV:=@PySem.codeAny_builtin
def jW:=@PySem.F.slot_dict_keyiterator_next
def jX:=@Bool.false_and
def ku:=@PySem.wpAny_standAt
def kG:=@Nat.zero_add
def kH:=@Nat.le_of_lt
def kI:=@Nat.le_add_right
def kT:=@PySem.wpAny_pyIter_list
def kU.{u}:=@List.take_succ.{u}
def kW.{u}:=@List.suffix_cons_iff.{u}
def kX.{u}:=@List.pairwise_append.{u}
def kY.{u}:=@List.getElem?_set_ne.{u}
def kZ.{u}:=@List.getD_eq_getElem?_getD.{u}
def lu.{u}:=@if_true.{u}
def lA.{u}:=@List.drop_length.{u}
def lB.{u}:=@List.any_eq_true.{u}
def lO:=@PySem.wpAny_letGo
def lP:=@PySem.isSubtype_type
def lQ:=@PySem.Heap.get?_none_of_le
def lR:=@PySem.Around.under_plainId
def lS:=@Bool.false_or
def lY:=@Nat.not_lt_zero
def lZ:=@Nat.min_eq_left
def ng:=@PySem.wpAny_typeNameOf_itemiter
def nh.{u}:=@if_false.{u}
def ni.{u}:=@List.all_cons.{u}
def nt.{u,v}:=@List.filterMap_cons.{u,v}
def nu.{u}:=@List.contains_cons.{u}
def nP:=@PySem.wpAny_typeNameOf_keyiter
def nQ:=@PySem.plainId_quiet
def nR.{u}:=@List.pairwise_singleton.{u}
def nS:=@PySem.F.entry_dict_get
def nU:=@Nat.lt_trans
def nV:=@Nat.le_succ_of_le
def om:=@PySem.wpAny_loadPart'
def oq:=@PySem.typeLookup_type
def ou:=@PySem.wpAny_rule
def ow:=@PySem.wpAny_call
def oZ.{u}:=@List.drop_zero.{u}
def o6:=@PySem.F.slot_dict_pop
def o8:=@Nat.succ_le_succ
def pZ:=@PySem.W.mg_of
def qf:=@PySem.wpAny_pyIter_slot
def qh:=@PySem.wpAny_fieldsOf
def qi.{u,v}:=@Option.isSome_map.{u,v}
def qj.{u,v}:=@List.map_nil.{u,v}
def ql.{u}:=@List.getElem?_eq_none.{u}
def rY:=@PySem.Obj.isFreed_of_fields
def rZ:=@PySem.F.slot_enumerate_next
def r6.{u}:=@List.mem_append_left.{u}
def sS.{u,v}:=@List.flatMap_nil.{u,v}
def sV:=@Nat.lt_or_ge
def tL.{u}:=@List.nodup_cons.{u}
def uc:=@PySem.boot_len
def ud:=@PySem.W.callWith_K
def ue:=@Bool.not_eq_false'
def uL:=@PySem.wpAny_execs_nil
def uM:=@PySem.codeAny_of_tree
def uN:=@Classical.byContradiction
def wm.{u}:=@List.take_zero.{u}
def wo.{u}:=@List.nodup_nil.{u}
def wu.{u}:=@List.mem_singleton.{u}
def wz:=@Nat.le_of_succ_le
def yd:=@PySem.wpAny_tryCatch
def ye:=@PySem.isSubtype_stop
def yf:=@decide_eq_false_iff_not
def yO:=@Nat.sub_self
def yP:=@Nat.mod_lt
def yQ:=@Nat.lt_of_succ_lt_succ
def A0:=@PySem.wpAny_pyIter_enum
def A1:=@PySem.Value.isInt_shape
def A2:=@PySem.Heap.SameBut.refl
def A3:=@PySem.F.slot_dict_items
def A4.{u}:=@beq_self_eq_true.{u}
def A5.{u}:=@List.zipIdx_cons.{u}
def A6.{u}:=@List.getElem?_cons_zero.{u}
def A7.{u}:=@List.cons_append.{u}
def A8:=@Bool.or_eq_true
def Ba.{u,v}:=@List.length_filterMap_le.{u,v}
def CI:=@PySem.F.entry_max_loop
def CJ.{u}:=@List.find?_some.{u}
def Ea.{u}:=@List.Pairwise.sublist.{u}
def Eg:=@PySem.wpAny_isOneOf_itemiter
def Eh:=@PySem.W.plainGet_of
def Ei:=@Int.toNat_of_nonneg
def Gn:=@PySem.pushCells_keeps
def Gp.{u,v}:=@Option.map_some.{u,v}
def Gq:=@PySem.F.slot_zip_next
def Gr.{u}:=@List.find?_singleton.{u}
def Gs.{u}:=@List.drop_drop.{u}
def Gx:=@PySem.wpAny_notOrdered_dict
def Gy:=@PySem.codeAny_handlers_test
def JP.{u,v}:=@Array.size_map.{u,v}
def Lp.{u}:=@beq_iff_eq.{u}
def LA:=@PySem.wpAny_setEntries_of
def LB:=@PySem.wpAny_handleBy_cons
def OD.{u,v,w}:=@List.forIn_nil.{u,v,w}
def OE:=@PySem.wpAny_onRaise
def OF.{u,v}:=@List.map_drop.{u,v}
namespace L2
open PySem PySem.Spec PyProof.Rows
abbrev Key:=Sum Int Str
def p5:Key->Value->Bool
 | .inl k,v=>Value.isInt k v
 | .inr x,v=>Value.isStrOf x v
def Yc(w:World):Key->Int
 | .inl k=>hashInt k
 | .inr x=>hashStr w x
theorem fm:∀{k:Key} {v:Value},p5 k v=true->(∃i t,k=Sum.inl i/\v=Value.int i t)\/(∃x t,k=Sum.inr x/\v=Value.str x t)
 | .inl i,v,h=>by
  obtain⟨t,e⟩:=A1 (k:=i) (v:=v) h;exact .inl ⟨i,t,rfl,e⟩
 | .inr x,v,h=>by
  obtain⟨t,e⟩:=Value.isStrOf_shape (x:=x) (v:=v) h;exact .inr ⟨x,t,rfl,e⟩
theorem JQ(i:Int)(t:Tok):p5 (.inl i) (.int i t)=true:=by simp[p5,Value.isInt]
theorem JR(x:Str)(t:Tok):p5 (.inr x) (.str x t)=true:=by simp[p5,Value.isStrOf]
theorem RA(a b:Int):decide ((Sum.inl a:Key)=Sum.inl b)=(a==b):=by
 by_cases e:a=b
 ·subst e;simp
 ·have h:¬(Sum.inl a:Key)=Sum.inl b:=fun q=>e (Sum.inl.inj q);rw[aK h];exact(beq_eq_false_iff_ne.mpr e).symm
theorem RB(a b:Str):decide ((Sum.inr a:Key)=Sum.inr b)=decide (a=b):=by
 by_cases e:a=b
 ·subst e;simp
 ·have h:¬(Sum.inr a:Key)=Sum.inr b:=fun q=>e (Sum.inr.inj q);rw[aK h,aK e]
theorem RC(a:Int)(b:Str):decide ((Sum.inl a:Key)=Sum.inr b)=false:=aK (fun q=>nomatch q)
theorem RD(a:Str)(b:Int):decide ((Sum.inr a:Key)=Sum.inl b)=false:=aK (fun q=>nomatch q)
def cN(prog:Program)(w:World):PySem.KeyKind prog w Key where
 is:=p5
 hash:=Yc w
 inj:=fun v a b ha hb=>by
  rcases fm ha with⟨i,t,rfl,rfl⟩|⟨x,t,rfl,rfl⟩
  ·rcases fm hb with⟨j,u,rfl,e⟩|⟨y,u,rfl,e⟩
   ·injection e with e1 _;rw[e1]
   ·exact nomatch e
  ·rcases fm hb with⟨j,u,rfl,e⟩|⟨y,u,rfl,e⟩
   ·exact nomatch e
   ·injection e with e1 _;rw[e1]
 byValue:=fun k v h=>by
  rcases fm h with⟨i,t,rfl,rfl⟩|⟨x,t,rfl,rfl⟩<;>rfl
 pyHash:=fun hv h=>by
  rcases fm hv with⟨i,t,rfl,rfl⟩|⟨x,t,rfl,rfl⟩
  ·exact wpAny_pyHash_int h
  ·exact wpAny_pyHash_str h
 eqBool:=fun hu hv h=>by
  rcases fm hu with⟨i,t,rfl,rfl⟩|⟨x,t,rfl,rfl⟩
  ·rcases fm hv with⟨j,u,rfl,rfl⟩|⟨y,u,rfl,rfl⟩
   ·rw[RA]at h;exact wpAny_eqBool_int h
   ·rw[RC]at h;exact SeqAt.EqAt.int_str i t y u _ _ _ _ h
  ·rcases fm hv with⟨j,u,rfl,rfl⟩|⟨y,u,rfl,rfl⟩
   ·rw[RD]at h;exact SeqAt.EqAt.str_int x t j u _ _ _ _ h
   ·rw[RB]at h;exact wpAny_eqBool_str h
 «strs» :=fun k x t v h=>by
  rcases fm h with⟨i,u,rfl,e⟩|⟨y,u,rfl,e⟩
  ·exact nomatch e
  ·injection e with e1 _;subst e1;cases v<;>rfl
theorem xA(prog:Program)(w:World)(i:Int)(t:Tok):(cN prog w).is (.inl i) (.int i t)=true:=JQ i t
theorem Ej(prog:Program)(w:World)(x:Str)(t:Tok):(cN prog w).is (.inr x) (.str x t)=true:=JR x t
inductive V where
 |dY|bl (b:Bool)|int (i:Int)|str (x:Str)|Gu (b:Array UInt8)|OO (b:UInt64)|ref (a:Addr)|ty (n:String)
 deriving DecidableEq
def cQ:V->Value->Prop
 | .dY,u=>u=Value.none
 | .bl b,u=>u=Value.bool b
 | .int i,u=>∃t,u=Value.int i t
 | .str x,u=>∃t,u=Value.str x t
 | .Gu b,u=>∃t,u=Value.bytes b t
 | .OO b,u=>∃t,u=Value.float b t
 | .ref a,u=>u=Value.ref a
 | .ty n,u=>u=Value.type n
abbrev cC:List V->List Value->Prop:=Paired cQ
theorem cC.length{xs:List V}{us:List Value}(r:cC xs us):xs.length=us.length:=bg r
theorem cC.get:∀{xs:List V} {us:List Value} {i:Nat} {x:V},cC xs us->xs[i]? =some x->∃u,us[i]? =some u/\cQ x u
 |_,_,_,_,.nil,e=>by simp at e
 |_,_,0,_,.cons r _,e=>by simp at e;subst e;exact⟨_,rfl,r⟩
 |_,_,i+1,x,.cons _ t,e=>by
  obtain⟨u,h1,h2⟩:=cC.get (i:=i) (x:=x) t (by simpa using e);exact⟨u,by simpa using h1,h2⟩
theorem cC.append:∀{xs ys:List V} {us ws:List Value},cC xs us->cC ys ws->cC (xs++ys) (us++ws)
 |_,_,_,_,.nil,s=>s
 |_,_,_,_,.cons r t,s=>.cons r (cC.append t s)
theorem cC.take:∀{xs:List V} {us:List Value} (n:Nat),cC xs us->cC (xs.take n) (us.take n)
 |_,_,0,_=>.nil
 |_,_,_+1,.nil=>.nil
 |_,_,n+1,.cons r t=>.cons r (cC.take n t)
theorem cC.drop:∀{xs:List V} {us:List Value} (n:Nat),cC xs us->cC (xs.drop n) (us.drop n)
 |_,_,0,r=>r
 |_,_,_+1,.nil=>.nil
 |_,_,n+1,.cons _ t=>cC.drop n t
def nW:Option V->Option Value->Prop
 |some v,some u=>cQ v u
 |none,none=>True
 |_,_=>False
def KV{κ:Type} :List (κ×V)->List (κ×Value)->Prop:=Paired fun(p:κ×V) (q:κ×Value)=>p.1=q.1/\cQ p.2 q.2
def kV:Key->V
 | .inl i=>.int i
 | .inr x=>.str x
inductive HO where
 |lst (xs:List V)
 |tup (xs:List V)
 |dK (kvs:List (Key×V))|dT (kvs:List (List Key×V))
 |set (S:Int->Bool) (n:Nat)
 |ins (C dx:Addr) (fs:List (Str×V))
 |own (x:Addr)
 |xd (fs:List (Str×V))
 |met (f x:Addr)
 |CK (lo hi:Int)
 |jy (o:Obj) (u:HO)
 |RE (ps:Array Value)
 |ext (φ:Heap->Prop)
abbrev Hp:=Addr->Option HO
def upd(H:Hp)(a:Addr)(o:HO):Hp:=fun b=>if b=a then some o else H b
theorem aj{H:Hp}{a:Addr}{o:HO} :upd H a o a=some o:=by unfold upd;rw[aB rfl]
theorem aI{H:Hp}{a b:Addr}{o:HO}(h:b≠a):upd H a o b=H b:=by unfold upd;rw[ao h]
theorem iX{H:Hp}{a:Addr}{o u:HO} :upd (upd H a o) a u=upd H a u:=by
 funext b;unfold upd;split<;>rfl
theorem ic{H:Hp}{a b:Addr}{o u:HO}(h:H a=some o)(h':H b=some u)(d:o≠u):a≠b:=by
 intro e;subst e;rw[h]at h';exact d (aQ h')
theorem aS{H:Hp}{a b:Addr}{o:HO}(h:H a=some o)(h':H b=none):a≠b:=by
 intro e;subst e;rw[h]at h';cases h'
section
variable(P:Program)(w:World)
def eX(H:Hp)(h:Heap)(a:Addr):HO->Prop
 | .lst xs=>xs.length<=sizeLine/\∃(its:List Value) (n:Nat),cC xs its/\h.get? a=some {cls:=.type "list",data:=.seq its.toArray n}
 | .tup xs=>xs.length<=sizeLine/\∃its:List Value,cC xs its/\IsTup h a its.toArray
 | .dK kvs=>kvs.length<=sizeLine/\(a==sysModules)=false/\∃vs,KV kvs vs/\h.DictOf (cN P w) a vs
 | .dT kvs=>kvs.length<=sizeLine/\(a==sysModules)=false/\∃xs:List (List Key×Addr×Value),
   Paired (fun(p:List Key×V) (q:List Key×Addr×Value)=>p.1=q.1/\H q.2.1=some (.tup (p.1.map kV))/\cQ p.2 q.2.2) kvs xs/\
   ∃o es ep,h.get? a=some o/\o.ExactDict/\o.data=.dict es ep/\es.toList=xs.map (entryOfKey (tupleKind (cN P w)))/\(xs.map (·.1)).Nodup
 | .set S n=>h.SetOf (intKind P w) a S n
 | .ins C dx fs=>H dx=some (.own a)/\fs.length<=1000/\dx≠a/\h.get? a=some (PySem.W.instObj C dx)/\
   ∃mA,h.Ns1 dx mA/\(∀f,nW (fs.lookup f) (mA f))/\PySem.Within mA (fs.map (·.1))
 | .own _=>∃o,h.get? a=some o
 | .xd fs=>∃mA,h.Ns1 a mA/\∀f,nW (fs.lookup f) (mA f)
 | .CK lo hi=>∃t u v,h.get? a=some {cls:=.type "range",data:=.fields #[.int lo t,.int hi u,.int 1 v]}
 | .jy o u=>h.get? a=some o/\eX H h a u
 | .RE ps=>h.get? a=some {cls:=.none,data:=.fields ps}
 | .met f x=>h.get? a=some (PySem.W.methodObj (.ref f) (.ref x))
 | .ext φ=>φ h/\(∃o,h.get? a=some o)/\∀h1 h2:Heap,φ h1->(∀o,h1.get? a=some o->h2.get? a=some o)->φ h2
def qp(H:Hp)(h:Heap):Prop:=∀a o,H a=some o->eX P w H h a o
end
section
variable{P:Program}{w:World}{H H':Hp}{h h':Heap}{a:Addr}{o:HO}
theorem eX.lt(x:eX P w H h a o):a<h.objs.size:=by
 cases o with
 |lst xs=>obtain⟨_,_,_,_,e⟩:=x;exact aF e
 |tup xs=>obtain⟨_,_,_,p⟩:=x;exact p.lt
 |dK kvs=>obtain⟨_,_,_,_,o,_,_,e,_⟩:=x;exact aF e
 |dT kvs=>obtain⟨_,_,_,_,o,_,_,e,_⟩:=x;exact aF e
 |set S n=>obtain⟨o,_,_,_,e,_⟩:=x;exact aF e
 |ins C dx fs=>obtain⟨_,_,_,e,_⟩:=x;exact aF e
 |own y=>obtain⟨_,e⟩:=x;exact aF e
 |xd fs=>obtain⟨_,⟨_,_,_,e,_⟩,_⟩:=x;exact aF e
 |CK lo hi=>obtain⟨_,_,_,e⟩:=x;exact aF e
 |jy ob u=>obtain⟨e,_⟩:=x;exact aF e
 |RE ps=>exact aF (show h.get? a=some _ from x)
 |met f y=>exact aF (show h.get? a=some _ from x)
 |ext φ=>obtain⟨_,⟨_,e⟩,_⟩:=x;exact aF e
theorem Paired.RG{α β:Type}{F G:α->β->Prop} :∀{l₁:List α} {l₂:List β},Paired F l₁ l₂->(∀a b,F a b->G a b)->Paired G l₁ l₂
 |_,_,.nil,_=>.nil
 |_,_,.cons r t,f=>.cons (f _ _ r) (Paired.RG t f)
theorem eX.stay(x:eX P w H h a o)(k:∀b u,(b=a\/H b=some (.own a))->h.get? b=some u->h'.get? b=some u)
  (ho:∀b,H b=some (.own a)->H' b=some (.own a)) (ht:∀b xs,H b=some (.tup xs)->H' b=some (.tup xs)):eX P w H' h' a o:=by
 induction o with
 |lst xs=>obtain⟨z,its,n,r,e⟩:=x;exact⟨z,its,n,r,k _ _ (.inl rfl) e⟩
 |tup xs=>obtain⟨z,its,r,ob,e,c⟩:=x;exact⟨z,its,r,ob,k _ _ (.inl rfl) e,c⟩
 |dK kvs=>obtain⟨z,y,vs,r,ob,es,ep,e,c⟩:=x;exact⟨z,y,vs,r,ob,es,ep,k _ _ (.inl rfl) e,c⟩
 |dT kvs=>
  obtain⟨z,y,xs,r,ob,es,ep,e,c⟩:=x;exact⟨z,y,xs,Paired.RG r fun p q z=>⟨z.1,ht _ _ z.2.1,z.2.2⟩,ob,es,ep,k _ _ (.inl rfl) e,c⟩
 |set S n=>obtain⟨ob,es,ep,t,e,c⟩:=x;exact⟨ob,es,ep,t,k _ _ (.inl rfl) e,c⟩
 |ins C dx fs=>
  obtain⟨d,z,ne,e,mA,⟨od,es,ep,e2,c⟩,r⟩:=x;exact⟨ho _ d,z,ne,k _ _ (.inl rfl) e,mA,⟨od,es,ep,k _ _ (.inr d) e2,c⟩,r⟩
 |own y=>obtain⟨ob,e⟩:=x;exact⟨ob,k _ _ (.inl rfl) e⟩
 |xd fs=>obtain⟨mA,⟨od,es,ep,e,c⟩,r⟩:=x;exact⟨mA,⟨od,es,ep,k _ _ (.inl rfl) e,c⟩,r⟩
 |CK lo hi=>obtain⟨t,u,v,e⟩:=x;exact⟨t,u,v,k _ _ (.inl rfl) e⟩
 |jy ob u ih=>obtain⟨e,q⟩:=x;exact⟨k _ _ (.inl rfl) e,ih q⟩
 |RE ps=>
  have e:h.get? a=some {cls:=.none,data:=.fields ps}:=x;show h'.get? a=some {cls:=.none,data:=.fields ps};exact k a _ (.inl rfl) e
 |met f y=>
  have e:h.get? a=some (PySem.W.methodObj (.ref f) (.ref y)):=x;show h'.get? a=some (PySem.W.methodObj (.ref f) (.ref y));exact k a _ (.inl rfl) e
 |ext φ=>obtain⟨p,⟨o,e⟩,st⟩:=x;exact⟨st _ _ p fun o q=>k _ _ (.inl rfl) q,⟨o,k _ _ (.inl rfl) e⟩,st⟩
theorem qp.lt(x:qp P w H h)(e:H a=some o):a<h.objs.size:=(x a o e).lt
theorem qp.fresh(x:qp P w H h)(e:h.objs.size<=a):H a=none:=by
 cases q:H a with
 |none=>rfl
 |some u=>exact absurd (br (x.lt q) e) (cV _)
theorem qp.kept(x:qp P w H h)(k:∀b u,h.get? b=some u->h'.get? b=some u):qp P w H h':=fun a o e=>
 (x a o e).stay (fun b u _ q=>k b u q) (fun _ q=>q) fun _ _ q=>q
theorem qp.laid(x:qp P w H h)(k:∀b u,h.get? b=some u->h'.get? b=some u)(hp:h.objs.size<=a)(new:eX P w (upd H a o) h' a o):qp P w (upd H a o) h':=fun b u e=>by
 have hn:=x.fresh hp;by_cases hb:b=a
 ·subst hb;rw[aj]at e;cases e;exact new
 ·rw[aI hb]at e;exact(x b u e).stay (fun c v _ q=>k c v q) (fun c q=>by rw[aI (aS q hn)];exact q) fun c xs q=>by rw[aI (aS q hn)];exact q
end
def Rd(H:Hp)(a:Addr)(u:HO):Prop:=H a=some u\/∃o,H a=some (.jy o u)
theorem Rd.ok{P:Program}{w:World}{H:Hp}{h:Heap}{a:Addr}{u:HO}(r:Rd H a u)(x:qp P w H h):eX P w H h a u:=by
 rcases r with r|⟨o,r⟩
 ·exact x a u r
 ·obtain⟨_,q⟩:=x a _ r;exact q
def OP:Option HO->Prop
 |some (.lst _)=>True
 |some (.dK _)=>True
 |some (.dT _)=>True
 |some (.set _ _)=>True
 |some (.ins _ _ _)=>True
 |some (.ext _)=>True
 |_=>False
section
variable{P:Program}{w:World}{H:Hp}{h h':Heap}{x e:Addr}{o':HO}
theorem qp.write(ok:qp P w H h)(mu:OP (H x))(he:e=x\/H e=some (.own x))(k:∀b u,b≠e->h.get? b=some u->h'.get? b=some u)(UG:∃u,h'.get? e=some u)
  (new:eX P w (upd H x o') h' x o'):qp P w (upd H x o') h':=fun b u q=>by
 have Va:∀c y,H c=some (.own y)->c≠x:=fun c y r z=>by subst z;rw[r]at mu;exact mu
 have JS:∀c xs,H c=some (.tup xs)->c≠x:=fun c xs r z=>by subst z;rw[r]at mu;exact mu
 by_cases hb:b=x
 ·subst hb;rw[aj]at q;cases q;exact new
 ·rw[aI hb]at q;by_cases JT:b=e
  ·have q':H b=some (.own x):=by
    rcases he with z|z
    ·exact absurd (JT.trans z) hb
    ·rw[JT];exact z
   rw[q]at q';cases q';obtain⟨v,hv⟩:=UG;exact⟨v,by rw[JT];exact hv⟩
  ·refine(ok b u q).stay (fun c v hc r=>k c v ?_ r) (fun c r=>by rw[aI (Va c b r)];exact r) fun c xs r=>by rw[aI (JS c xs r)];exact r
   rcases hc with rfl|hc
   ·exact JT
   ·rintro rfl;rcases he with z|z
    ·exact Va c b hc z
    ·rw[hc]at z;cases z;exact hb rfl
end
structure Un (fs ex:List Addr) (H H':Hp) (h h':Heap):Prop where
 keep:∀b o,h.get? b=some o->H b=none->b∉fs->b∉ex->h'.get? b=some o
 slot:∀b o,h.get? b=some o->H b=none->b∈fs->b∉ex->∃sl,h'.get? b=some {o with slots:=sl}
 free:∀b o,h.get? b=some o->H b=none->b∉ex->H' b=none
 there:∀b o,h.get? b=some o->b∉ex->∃o',h'.get? b=some o'
 tups:∀b xs,H b=some (.tup xs)->H' b=some (.tup xs)
 uO:∀b o u,H b=some (.jy o u)->H' b=some (.jy o u)
 yg:∀b ps,H b=some (.RE ps)->∃more,H' b=some (.RE (ps++more))
section
variable{fs fs' ex ex':List Addr}{H H1 H2:Hp}{h h1 h2 h':Heap}{a x e:Addr}{o:HO}
theorem Un.any(u:Un fs ex H H1 h h1){b:Addr}{ob:Obj}(q:h.get? b=some ob)(n:H b=none)(hx:b∉ex):∃sl,h1.get? b=some {ob with slots:=sl}:=by
 by_cases hb:b∈fs
 ·exact u.slot b ob q n hb hx
 ·exact⟨ob.slots,u.keep b ob q n hb hx⟩
theorem Un.kept(k:∀b u,h.get? b=some u->h'.get? b=some u):Un fs ex H H h h':=
 ⟨fun b ob q _ _ _=>k b ob q,fun b ob q _ _ _=>⟨ob.slots,k b ob q⟩,fun _ _ _ n _=>n,fun b ob q _=>⟨ob,k b ob q⟩,fun _ _ q=>q,fun _ _ _ q=>q,fun _ ps q=>⟨#[],by rw[q];simp⟩⟩
theorem Un.refl:Un fs ex H H h h:=Un.kept fun _ _ q=>q
theorem Un.laid(k:∀b u,h.get? b=some u->h'.get? b=some u)(hp:h.objs.size<=a)(hn:H a=none):Un fs ex H (upd H a o) h h' where
 keep:=fun b u q _ _ _=>k b u q
 slot:=fun b u q _ _ _=>⟨u.slots,k b u q⟩
 free:=fun b u q n _=>by rw[aI (aT (br (aF q) hp))];exact n
 there:=fun b u q _=>⟨u,k b u q⟩
 tups:=fun b xs q=>by rw[aI (aS q hn)];exact q
 uO:=fun b u xs q=>by rw[aI (aS q hn)];exact q
 yg:=fun b ps q=>⟨#[],by rw[aI (aS q hn),q];simp⟩
theorem Un.write(mu:OP (H x))(he:e=x\/H e=some (.own x))(k:∀b u,b≠e->h.get? b=some u->h'.get? b=some u)(UG:∃u,h'.get? e=some u):Un fs ex H (upd H x o) h h':=by
 have hx:∀b,H b=none->b≠x:=fun b n z=>by subst z;rw[n]at mu;exact mu
 have hb:∀b,H b=none->b≠e:=fun b n z=>by
  subst z;rcases he with r|r
  ·exact hx b n r
  ·rw[n]at r;cases r
 have hm:∀b u,H b=some u->¬OP (some u)->b≠x:=fun b u q nm z=>by subst z;rw[q]at mu;exact nm mu
 refine⟨fun b u q n _ _=>k b u (hb b n) q,fun b u q n _ _=>⟨u.slots,k b u (hb b n) q⟩,fun b u q n _=>by rw[aI (hx b n)];exact n,fun b u q _=>?_,
  fun b xs q=>by rw[aI (hm b _ q fun z=>z)];exact q,fun b u xs q=>by rw[aI (hm b _ q fun z=>z)];exact q,fun b ps q=>⟨#[],by rw[aI (hm b _ q fun z=>z),q];simp⟩⟩
 by_cases JT:b=e
 ·subst JT;exact UG
 ·exact⟨u,k b u JT q⟩
end
def Xu(h:Heap)(H:Hp):List Addr:=(List.range h.objs.size).filter fun a=>(H a).isSome
def CL(h:Heap)(H:Hp):Heap:=PySem.W.hideAll h (Xu h H)
theorem JU(h:Heap)(H:Hp):(CL h H).objs.size=h.objs.size:=PySem.W.hideAll_size _ _
theorem LC{h:Heap}{H:Hp}{b:Addr}{o:Obj}(e:h.get? b=some o)(n:H b=none):(CL h H).get? b=some o:=
 PySem.W.hideAll_get _ e fun hm=>by
  have q:(H b).isSome=true:=(List.mem_filter.mp hm).2;rw[n]at q;simp at q
theorem OQ{h:Heap}{H:Hp}{b:Addr}{o:Obj}(e:(CL h H).get? b=some o):h.get? b=some o/\H b=none:=by
 have e':h.get? b=some o:=PySem.W.of_hideAll (Xu h H) e;refine⟨e',?_⟩;cases q:H b with
 |none=>rfl
 |some x=>
  have hm:b∈Xu h H:=List.mem_filter.mpr ⟨List.mem_range.mpr (aF e'),by simp[q]⟩;have z:(CL h H).get? b=none:=PySem.W.hideAll_none (Xu h H) hm;rw[z]at e;cases e
structure Mod (K:PySem.W.Frag) (mg:Str->Option Value) (base:Heap):Prop where
 UH:K.In base
 glob:base.Ns mainGlobals mg
 blt:∃mb,base.Ns builtinsNs mb/\∀x:Str,x≠"__name__"->mb x=bootBuiltins x
 nolimit:base.NoLimit
structure Cx where
 prog:Program
 w:World
 K:PySem.W.Frag
 mg:Str->Option Value
 base:Heap
 A:Around
 N:List Str
 Bb:Shared
 RH:Hp
 env:Env
 outer:List Env
 stack:List Env
 ex:List Addr
 fn:Str->Bool
 calm:Bool
 pn:List (Addr×Obj)
 xe:Value->Shared->Prop
def frs(l:List Env):List Addr:=l.filterMap (·.frame)
abbrev Cx.fs(X:Cx):List Addr:=frs X.outer
def UI(sc:Scope)(x:Str):Prop:=sc.names.lookup x=some .local\/sc.names.lookup x=some .cell\/sc.names.lookup x=some .free
def Xq(sc:Scope)(x:Str):Prop:=sc.names.lookup x=some .local\/sc.names.lookup x=some .cell
def aad(env:Env)(h:Heap)(m:Str->Option Value)(x:Str)(u:Value):Prop:=
 (env.kindOf x=some .local/\m x=some u)\/((env.kindOf x=some .cell\/env.kindOf x=some .free)/\∃c,env.cells.lookup x=some c/\h.IsCell c (some u))
structure Cx.Ok (X:Cx):Prop where
 mod:Mod X.K X.mg X.base
 kind:X.env.scope.kind=.function
 glob:X.env.globals=mainGlobals
 blt:X.env.builtins=builtinsNs
 above:X.Bb.heap.objs.size<=X.env.locals
 inj:∀x y c,X.env.cells.lookup x=some c->X.env.cells.lookup y=some c->x=y
 has:∀x,(X.env.kindOf x=some .cell\/X.env.kindOf x=some .free)->∃c,X.env.cells.lookup x=some c
 RI:∀x c,X.fn x=true->X.env.cells.lookup x=some c->X.Bb.heap.objs.size<=c
 hd:X.calm=true->X.A.handled=none
 frames:X.A.frames=some X.stack
 stk:X.stack=X.outer\/(X.stack=X.env::X.outer/\X.env.frame=some X.env.locals)
 UJ:∀b∈X.ex,b≠X.env.locals/\∀x c,X.env.cells.lookup x=some c->c≠b
 bs:∀b o,X.base.get? b=some o->X.Bb.heap.get? b=some o/\X.RH b=none
 LD:X.base.objs.size<=X.Bb.heap.objs.size
 GA:∀b o,X.base.get? b=some o->b∉X.ex
 GB:∀b∈X.ex,b∉X.fs
 uP:X.Bb.heap.FunFrames X.base X.outer
 OR:∀b∈X.fs,X.RH b=none
structure bJ (X:Cx) (pins:List (Addr×Obj)) (σ:List (Option V)) (H:Hp) (s:Shared):Prop where
 ok:X.Ok
 os:s.os=X.Bb.os
 bare:AllBare s.gens
 base:Un X.fs X.ex X.RH H X.Bb.heap s.heap
 loc:∃m,s.heap.Ns X.env.locals m/\∀(i:Nat) (x:Str) (v:V),X.N[i]? =some x->σ[i]? =some (some v)->UI X.env.scope x->∃u,cQ v u/\aad X.env s.heap m x u
 cell:∀x c,X.env.cells.lookup x=some c->∃v,s.heap.IsCell c v
 free:H X.env.locals=none
 jh:∀x c,X.env.cells.lookup x=some c->H c=none
 pin:∀p∈X.pn++pins,s.heap.get? p.1=some p.2/\H p.1=none/\p.1≠X.env.locals/\p.1∉X.fs/\∀v,p.2.data≠.cell v
 hok:qp X.prog X.w H s.heap
 len:σ.length=X.N.length
section
variable{X:Cx}{pins:List (Addr×Obj)}{σ:List (Option V)}{H H':Hp}{s:Shared}{h':Heap}
theorem Cx.Ok.Yd(ok:X.Ok){b:Addr}{o:Obj}(e:X.base.get? b=some o):b∉X.fs:=fun hb=>by
 have:=(ok.uP.mem hb).1;rw[e]at this;cases this
theorem bJ.bs(I:bJ X pins σ H s):∀b o,X.base.get? b=some o->s.heap.get? b=some o/\H b=none:=fun b o e=>
 ⟨I.base.keep b o (I.ok.bs b o e).1 (I.ok.bs b o e).2 (I.ok.Yd e) (I.ok.GA b o e),I.base.free b o (I.ok.bs b o e).1 (I.ok.bs b o e).2 (I.ok.GA b o e)⟩
theorem bJ.bk(I:bJ X pins σ H s):∀b o,X.base.get? b=some o->s.heap.get? b=some o:=fun b o e=>(I.bs b o e).1
theorem bJ.mod(I:bJ X pins σ H s):Mod X.K X.mg X.base:=I.ok.mod
theorem bJ.o7(I:bJ X pins σ H s):X.K.In s.heap:=I.ok.mod.UH.keeps I.bk
theorem bJ.lt(I:bJ X pins σ H s):X.env.locals<s.heap.objs.size:=let ⟨_,hn,_⟩:=I.loc;hn.lt
theorem bJ.sz(I:bJ X pins σ H s):X.Bb.heap.objs.size<=s.heap.objs.size:=aP I.ok.above (kH I.lt)
theorem bJ.Ye(I:bJ X pins σ H s){a:Addr}(h:s.heap.objs.size<=a):a∉X.fs:=fun hb=>by
 obtain⟨_,o,ho,_⟩:=I.ok.uP.mem hb;exact absurd (br (aF ho) (aP I.sz h)) (cV _)
theorem bJ.OS(I:bJ X pins σ H s):∀x c,X.env.cells.lookup x=some c->c≠X.env.locals:=fun x c e z=>by
 obtain⟨v,o,ho,hd⟩:=I.cell x c e;obtain⟨m,⟨o',es,ep,ho',hd',_⟩,_⟩:=I.loc;rw[z,ho']at ho;cases ho;rw[hd']at hd;cases hd
theorem bJ.uP(I:bJ X pins σ H s):s.heap.FunFrames X.base X.outer:=by
 have all:∀(l:List Env),(∀b∈frs l,b∈X.fs)->X.Bb.heap.FunFrames X.base l->s.heap.FunFrames X.base l:=by
  intro l;induction l with
  |nil=>intro _ _;trivial
  |cons env r ih=>
   intro hs hl;obtain⟨hk,⟨L,o,hf,hn,ho,hd⟩,hr⟩:=hl;have hL:L∈X.fs:=hs L (by unfold frs;rw[nt,hf];exact aL);obtain⟨sl,e⟩:=I.base.slot L o ho (I.ok.OR L hL) hL fun z=>I.ok.GB L z hL;exact⟨hk,⟨L,_,hf,hn,e,hd⟩,ih (fun b hb=>hs b (by unfold frs;rw[nt,hf];exact aG _ hb)) hr⟩
 exact all X.outer (fun _ hb=>hb) I.ok.uP
theorem bJ.stack(I:bJ X pins σ H s):s.heap.FunFrames X.base X.stack:=by
 rcases I.ok.stk with e|⟨e,hf⟩
 ·rw[e];exact I.uP
 ·rw[e];obtain⟨m,hn,_⟩:=I.loc;refine .cons (by rw[I.ok.kind];decide) hf hn ?_ I.uP;exact lQ (aP I.ok.LD I.ok.above)
theorem bJ.CM(I:bJ X pins σ H s):∀b∈frs X.stack,b∈X.env.locals::X.fs:=fun b hb=>by
 rcases I.ok.stk with e|⟨e,hf⟩
 ·rw[e]at hb;exact aG _ hb
 ·rw[e]at hb;unfold frs at hb;rw[nt,hf]at hb;exact hb
theorem bJ.CN(I:bJ X pins σ H s):∀b∈frs X.stack,H b=none:=fun b hb=>by
 rcases List.mem_cons.mp (I.CM b hb)with e|hb
 ·rw[e];exact I.free
 ·obtain⟨_,o,ho,_⟩:=I.ok.uP.mem hb;exact I.base.free b o ho (I.ok.OR b hb) fun z=>I.ok.GB b z hb
theorem bJ.step{g':Array GenState}{t':Nat}{d':Drawn}{ch:List Addr}(I:bJ X pins σ H s)
  (hch:∀b∈ch,(b∈X.ex\/X.Bb.heap.objs.size<=b)/\b≠X.env.locals/\(∀x c,X.env.cells.lookup x=some c->c≠b)/\∀p∈X.pn++pins,p.1≠b)
  (keep:∀b o,b≠X.env.locals->b∉X.fs->b∉ch->s.heap.get? b=some o->H b=none->h'.get? b=some o)
  (slot:∀b o,b≠X.env.locals->b∈X.fs->b∉ch->s.heap.get? b=some o->H b=none->∃sl,h'.get? b=some {o with slots:=sl}) (free:∀b o,b∉ch->s.heap.get? b=some o->H b=none->H' b=none)
  (there:∀b o,b∉ch->s.heap.get? b=some o->∃o',h'.get? b=some o')
  (tups:∀b xs,H b=some (.tup xs)->H' b=some (.tup xs)) (uO:∀b o u,H b=some (.jy o u)->H' b=some (.jy o u)) (yg:∀b ps,H b=some (.RE ps)->∃more,H' b=some (.RE (ps++more)))
  (ns:∀m,s.heap.Ns X.env.locals m->h'.Ns X.env.locals m) (hok:qp X.prog X.w H' h') (hg:AllBare g'):
  bJ X pins σ H' {s with heap:=h',gens:=g',drawn:=d',toks:=t'}:=by
 have Xv:∀b o,X.Bb.heap.get? b=some o->b≠X.env.locals:=fun b o e=>aT (br (aF e) I.ok.above);have Xw:∀b o,X.Bb.heap.get? b=some o->b∉X.ex->b∉ch:=fun b o e hx hb=>by
  rcases (hch b hb).1 with z|z
  ·exact hx z
  ·exact absurd (br (aF e) z) (cV _)
 have cellK:∀x c,X.env.cells.lookup x=some c->∀v,s.heap.IsCell c v->h'.IsCell c v:=fun x c e v ⟨o,ho,hd⟩=>by
  have Vb:c∉ch:=fun z=>(hch c z).2.2.1 x c e rfl;by_cases hc:c∈X.fs
  ·obtain⟨sl,q⟩:=slot c o (I.OS x c e) hc Vb ho (I.jh x c e);exact⟨_,q,hd⟩
  ·exact⟨o,keep c o (I.OS x c e) hc Vb ho (I.jh x c e),hd⟩
 refine⟨I.ok,I.os,hg,⟨fun b o e n hb hx=>?_,fun b o e n hb hx=>?_,fun b o e n hx=>?_,fun b o e hx=>?_,fun b xs e=>tups b xs (I.base.tups b xs e),fun b o xs e=>uO b o xs (I.base.uO b o xs e),fun b ps e=>?_⟩,?_,fun x c e=>?_,?_,fun x c e=>?_,fun p hp=>?_,hok,I.len⟩
 ·exact keep b o (Xv b o e) hb (Xw b o e hx) (I.base.keep b o e n hb hx) (I.base.free b o e n hx)
 ·obtain⟨sl,e1⟩:=I.base.slot b o e n hb hx;obtain⟨sl',e2⟩:=slot b _ (Xv b o e) hb (Xw b o e hx) e1 (I.base.free b o e n hx);exact⟨sl',e2⟩
 ·obtain⟨o',e1⟩:=I.base.there b o e hx;exact free b o' (Xw b o e hx) e1 (I.base.free b o e n hx)
 ·obtain⟨o',e1⟩:=I.base.there b o e hx;exact there b o' (Xw b o e hx) e1
 ·obtain⟨m1,e1⟩:=I.base.yg b ps e;obtain⟨m2,e2⟩:=yg b _ e1;exact⟨m1++m2,by rw[e2,Array.append_assoc]⟩
 ·obtain⟨m,hn,hl⟩:=I.loc;refine⟨m,ns m hn,fun i x v e1 e2 e3=>?_⟩;obtain⟨u,r,l⟩:=hl i x v e1 e2 e3;refine⟨u,r,?_⟩;rcases l with l|⟨k,c,e,z⟩
  ·exact .inl l
  ·exact .inr ⟨k,c,e,cellK x c e _ z⟩
 ·obtain⟨v,z⟩:=I.cell x c e;exact⟨v,cellK x c e v z⟩
 ·obtain⟨m,⟨o,_,_,ho,_⟩,_⟩:=I.loc;exact free _ o (fun z=>(hch _ z).2.1 rfl) ho I.free
 ·obtain⟨v,o,ho,hd⟩:=I.cell x c e;exact free c o (fun z=>(hch c z).2.2.1 x c e rfl) ho (I.jh x c e)
 ·obtain⟨e,n,ne,nf,d⟩:=I.pin p hp;have Vb:p.1∉ch:=fun z=>(hch p.1 z).2.2.2 p hp rfl;exact⟨keep p.1 p.2 ne nf Vb e n,free p.1 p.2 Vb e n,ne,nf,d⟩
theorem bJ.un{t':Nat}(I:bJ X pins σ H s)(u:Un X.fs [] H H' s.heap h')(hok:qp X.prog X.w H' h'):bJ X pins σ H' {s with heap:=h',toks:=t'}:=by
 obtain⟨m,⟨o,es,ep,ho,r⟩,_⟩:=id I.loc;obtain⟨sl,hL⟩:=u.any ho I.free (by simp);exact I.step (g':=s.gens) (d':=s.drawn) (ch:=[]) (fun _ z=>nomatch z) (fun b o _ hb _ e n=>u.keep b o e n hb (by simp)) (fun b o _ hb _ e n=>u.slot b o e n hb (by simp)) (fun b o _ e n=>u.free b o e n (by simp)) (fun b o _ e=>u.there b o e (by simp)) u.tups u.uO u.yg (fun m' hm=>by
  obtain⟨o',es',Lq,ho',r'⟩:=hm;rw[ho]at ho';cases ho';exact⟨_,es',Lq,hL,r'⟩) hok I.bare
theorem bJ.call{g':Array GenState}{t':Nat}{d':Drawn}{ch:List Addr}(I:bJ X pins σ H s)(u:Un (frs X.stack) ch H H' s.heap h')(hok:qp X.prog X.w H' h')(hg:AllBare g')
  (hch:∀b∈ch,(b∈X.ex\/X.Bb.heap.objs.size<=b)/\b≠X.env.locals/\(∀x c,X.env.cells.lookup x=some c->c≠b)/\∀p∈X.pn++pins,p.1≠b):
  bJ X pins σ H' {s with heap:=h',gens:=g',drawn:=d',toks:=t'}:=by
 obtain⟨m,⟨o,es,ep,ho,r⟩,_⟩:=id I.loc;obtain⟨sl,hL⟩:=u.any ho I.free fun z=>(hch _ z).2.1 rfl;exact I.step (ch:=ch) hch (fun b o hL hb hc e n=>u.keep b o e n (fun z=>(List.mem_cons.mp (I.CM b z)).elim hL hb) hc) (fun b o _ _ hc e n=>u.any e n hc) (fun b o hc e n=>u.free b o e n hc) (fun b o hc e=>u.there b o e hc) u.tups u.uO u.yg (fun m' hm=>by
  obtain⟨o',es',Lq,ho',r'⟩:=hm;rw[ho]at ho';cases ho';exact⟨_,es',Lq,hL,r'⟩) hok hg
theorem bJ.turned{t':Nat}{it:Addr}(I:bJ X pins σ H s)(k:∀b o,b≠it->s.heap.get? b=some o->h'.get? b=some o)(hn:H it=none)(hL:it≠X.env.locals)
  (h1:it∈X.ex\/X.Bb.heap.objs.size<=it) (h2:∀x c,X.env.cells.lookup x=some c->c≠it) (h3:∀p∈X.pn++pins,p.1≠it):bJ X pins σ H {s with heap:=h',toks:=t'}:=by
 have QV:∀b u,H b=some u->b≠it:=fun b u e z=>by rw[z,hn]at e;cases e
 refine I.step (g':=s.gens) (d':=s.drawn) (ch:=[it]) (fun b hb=>?_) (fun b o _ _ hc e _=>k b o (fun z=>hc (by simp[z])) e) (fun b o _ _ hc e _=>⟨o.slots,k b o (fun z=>hc (by simp[z])) e⟩) (fun _ _ _ _ n=>n)
  (fun b o hc e=>⟨o,k b o (fun z=>hc (by simp[z])) e⟩) (fun _ _ e=>e) (fun _ _ _ e=>e) (fun b ps e=>⟨#[],by rw[e];simp⟩) (fun m hm=>?_) (fun b u e=>?_) I.bare
 ·have e:b=it:=by simpa using hb
  subst e;exact⟨h1,hL,h2,h3⟩
 ·obtain⟨o,es,ep,ho,r⟩:=hm;exact⟨o,es,ep,k _ o (bP hL) ho,r⟩
 ·refine(I.hok b u e).stay (fun c v hc q=>k c v ?_ q) (fun _ q=>q) fun _ _ q=>q;rcases hc with z|z
  ·rw[z];exact QV b u e
  ·exact QV c _ z
theorem bJ.tok(I:bJ X pins σ H s)(t:Nat):bJ X pins σ H {s with toks:=t}:=I.un (h':=s.heap) (t':=t) Un.refl I.hok
theorem bJ.kept{t':Nat}(I:bJ X pins σ H s)(k:∀b u,s.heap.get? b=some u->h'.get? b=some u):bJ X pins σ H {s with heap:=h',toks:=t'}:=I.un (Un.kept k) (I.hok.kept k)
theorem bJ.laid{a:Addr}{o:HO}{t':Nat}(I:bJ X pins σ H s)(k:∀b u,s.heap.get? b=some u->h'.get? b=some u)(hp:s.heap.objs.size<=a)(new:eX X.prog X.w (upd H a o) h' a o):
  bJ X pins σ (upd H a o) {s with heap:=h',toks:=t'}:=I.un (Un.laid k hp (I.hok.fresh hp)) (I.hok.laid k hp new)
theorem bJ.write{x e:Addr}{o:HO}{t':Nat}(I:bJ X pins σ H s)(mu:OP (H x))(he:e=x\/H e=some (.own x))(k:∀b u,b≠e->s.heap.get? b=some u->h'.get? b=some u)(UG:∃u,h'.get? e=some u)
  (new:eX X.prog X.w (upd H x o) h' x o):bJ X pins σ (upd H x o) {s with heap:=h',toks:=t'}:=I.un (Un.write mu he k UG) (I.hok.write mu he k UG new)
theorem bJ.weak{σ':List (Option V)}(I:bJ X pins σ H s)(hl:σ'.length=σ.length)(w:∀(i:Nat) v,σ'[i]? =some (some v)->σ[i]? =some (some v)):bJ X pins σ' H s:=
 ⟨I.ok,I.os,I.bare,I.base,let ⟨m,hn,hl'⟩:=I.loc;⟨m,hn,fun i x v e1 e2 e3=>hl' i x v e1 (w i v e2) e3⟩,I.cell,I.free,I.jh,I.pin,I.hok,hl.trans I.len⟩
theorem bJ.Im{yR:List (Addr×Obj)}(I:bJ X pins σ H s)(h:∀p∈yR,s.heap.get? p.1=some p.2/\H p.1=none/\p.1≠X.env.locals/\p.1∉X.fs/\∀v,p.2.data≠.cell v):bJ X yR σ H s:=
 ⟨I.ok,I.os,I.bare,I.base,I.loc,I.cell,I.free,I.jh,fun p hp=>(List.mem_append.mp hp).elim (fun z=>I.pin p (r6 _ z)) (h p),I.hok,I.len⟩
theorem uQ{N:List Str}(hN:N.Nodup){i j:Nat}{x:Str}(a:N[i]? =some x)(b:N[j]? =some x):i=j:=by
 obtain⟨h1,e1⟩:=List.getElem?_eq_some_iff.mp a;obtain⟨h2,e2⟩:=List.getElem?_eq_some_iff.mp b;exact(List.getElem_inj hN).mp (e1.trans e2.symm)
theorem BH{M:Model}{A:Around}{E:Value->Shared->Prop}{i:Nat}{x:Str}{v:V}{u:Value}{Q:Unit->Shared->Prop}(I:bJ X pins σ H s)(hN:X.N.Nodup)(hi:X.N[i]? =some x)(hx:Xq X.env.scope x)(r:cQ v u)
  (h:∀s',bJ X pins (σ.set i (some v)) H s'->(∃a,Heap.SameBut a s.heap s'.heap/\(a=X.env.locals\/X.env.cells.lookup x=some a))->Q () s') (hf:X.fn x=true\/X.env.scope.names.lookup x=some .local:=by first|exact .inl rfl|exact .inr rfl|assumption):wpAny M A (storeName X.env x u) Q E s:=by
 obtain⟨m,hn,hl⟩:=id I.loc;have hcls:(X.env.scope.kind==.class||(X.env.scope.kind==.module&&X.env.locals != X.env.globals))=false:=by rw[I.ok.kind];rfl
 have Vc:i<σ.length:=by rw[I.len];exact(List.getElem?_eq_some_iff.mp hi).1
 have OS:=I.OS;have tracked:∀{a:Addr} {h':Heap},(∃o,s.heap.get? a=some o/\H a=none)->Heap.SameBut a s.heap h'->qp X.prog X.w H h':=fun{a h'} ha hs b ob e=>by
  obtain⟨_,_,hfree⟩:=ha;refine(I.hok b ob e).stay (fun c w' hc q=>(hs.2 c ?_).trans q) (fun _ q=>q) fun _ _ q=>q;rintro rfl;rcases hc with rfl|hc
  ·rw[hfree]at e;cases e
  ·rw[hfree]at hc;cases hc
 rcases hx with hk|hk
 ·refine wpAny_storeName_local hk hn (fun h' hn' hs=>?_) hcls;obtain⟨oL,_,_,UK,_⟩:=id hn;refine h _ ⟨I.ok,I.os,I.bare,⟨fun b o e n hb hx=>?_,fun b o e n hb hx=>?_,I.base.free,fun b o e hx=>?_,I.base.tups,I.base.uO,I.base.yg⟩,⟨_,hn',fun j y v' e1 e2 e3=>?_⟩,fun y c e=>?_,I.free,I.jh,fun p hp=>?_,tracked ⟨oL,UK,I.free⟩ hs,by simpa using I.len⟩ ⟨_,hs,.inl rfl⟩
  ·exact(hs.2 b (aT (br (aF e) I.ok.above))).trans (I.base.keep b o e n hb hx)
  ·obtain⟨sl,e1⟩:=I.base.slot b o e n hb hx;exact⟨sl,(hs.2 b (aT (br (aF e) I.ok.above))).trans e1⟩
  ·obtain⟨o',e1⟩:=I.base.there b o e hx;exact⟨o',(hs.2 b (aT (br (aF e) I.ok.above))).trans e1⟩
  ·by_cases hj:j=i
   ·subst hj;rw[hi]at e1;cases e1;rw[jw Vc]at e2;cases e2;exact⟨u,r,.inl ⟨hk,by simp⟩⟩
   ·rw[kY (bP hj)]at e2;obtain⟨u',r',q⟩:=hl j y v' e1 e2 e3;refine⟨u',r',?_⟩;rcases q with⟨k,e⟩|⟨k,c,e,z⟩
    ·refine .inl ⟨k,?_⟩;have:y≠x:=fun e=>hj (uQ hN e1 (e ▸ hi));simp[this,e]
    ·exact .inr ⟨k,c,e,z.sameBut hs (OS y c e)⟩
  ·obtain⟨w',z⟩:=I.cell y c e;exact⟨w',z.sameBut hs (OS y c e)⟩
  ·obtain⟨e,n,ne,nf,d⟩:=I.pin p hp;exact⟨(hs.2 p.1 ne).trans e,n,ne,nf,d⟩
 ·have hfn:X.fn x=true:=by
   rcases hf with z|z
   ·exact z
   ·rw[z]at hk;cases hk
  obtain⟨c,hc⟩:=I.ok.has x (.inl hk);obtain⟨w',z⟩:=I.cell x c hc;refine wpAny_storeName_cell I.ok.kind hk hc z (fun h' hc' hs=>?_);obtain⟨oc,hoc,Yg⟩:=id z;refine h {s with heap:=h'} ⟨I.ok,I.os,I.bare,⟨fun b o e n hb hx=>?_,fun b o e n hb hx=>?_,I.base.free,fun b o e hx=>?_,I.base.tups,I.base.uO,I.base.yg⟩,⟨m,hn.sameBut hs (bP (OS x c hc)),fun j y v' e1 e2 e3=>?_⟩,fun y c' e=>?_,I.free,I.jh,fun p hp=>?_,tracked ⟨oc,hoc,I.jh x c hc⟩ hs,by simpa using I.len⟩ ⟨c,hs,.inr hc⟩
  ·exact(hs.2 b (aT (br (aF e) (I.ok.RI x c hfn hc)))).trans (I.base.keep b o e n hb hx)
  ·obtain⟨sl,e1⟩:=I.base.slot b o e n hb hx;exact⟨sl,(hs.2 b (aT (br (aF e) (I.ok.RI x c hfn hc)))).trans e1⟩
  ·obtain⟨o',e1⟩:=I.base.there b o e hx;exact⟨o',(hs.2 b (aT (br (aF e) (I.ok.RI x c hfn hc)))).trans e1⟩
  ·by_cases hj:j=i
   ·subst hj;rw[hi]at e1;cases e1;rw[jw Vc]at e2;cases e2;exact⟨u,r,.inr ⟨.inl hk,c,hc,hc'⟩⟩
   ·rw[kY (bP hj)]at e2;obtain⟨u',r',q⟩:=hl j y v' e1 e2 e3;refine⟨u',r',?_⟩;rcases q with q|⟨k,c',e,z'⟩
    ·exact .inl q
    ·refine .inr ⟨k,c',e,z'.sameBut hs ?_⟩;rintro rfl;exact hj (uQ hN e1 (I.ok.inj _ _ _ e hc ▸ hi))
  ·by_cases hcc:c'=c
   ·subst hcc;exact⟨_,hc'⟩
   ·obtain⟨w2,z2⟩:=I.cell y c' e;exact⟨w2,z2.sameBut hs hcc⟩
  ·obtain⟨e,n,ne,nf,d⟩:=I.pin p hp;refine⟨(hs.2 p.1 ?_).trans e,n,ne,nf,d⟩;intro q;rw[q,hoc]at e;have q':oc=p.2:=aQ e;exact d w' (by rw[<- q'];exact Yg)
theorem qu{M:Model}{A:Around}{E:Value->Shared->Prop}{i:Nat}{x:Str}{v:V}{u:Value}{Q:Unit->Shared->Prop}(I:bJ X pins σ H s)(hN:X.N.Nodup)(hi:X.N[i]? =some x)(hx:Xq X.env.scope x)(r:cQ v u)
  (h:∀s',bJ X pins (σ.set i (some v)) H s'->Q () s') (hf:X.fn x=true\/X.env.scope.names.lookup x=some .local:=by first|exact .inl rfl|exact .inr rfl|assumption):wpAny M A (storeName X.env x u) Q E s:=
 BH I hN hi hx r (fun s' I' _=>h s' I') hf
theorem bJ.QW{s':Shared}{ch:List Addr}(I:bJ X pins σ H s)(ho:s'.os=s.os)(u:Un (frs X.stack) ch H H' s.heap s'.heap)(hok:qp X.prog X.w H' s'.heap)(hg:AllBare s'.gens)
  (hch:∀b∈ch,(b∈X.ex\/X.Bb.heap.objs.size<=b)/\b≠X.env.locals/\(∀x c,X.env.cells.lookup x=some c->c≠b)/\∀p∈X.pn++pins,p.1≠b):bJ X pins σ H' s':=by
 obtain⟨h',g',d',t',o'⟩:=s';have e:o'=s.os:=ho;subst e;exact I.call (g':=g') (t':=t') (d':=d') u hok hg hch
end
abbrev XK:=Value->Option Addr->Hp->Prop
abbrev St:=List (Option V)
abbrev VK:=V->Hp->Prop
abbrev TE:=St->Hp->VK->Prop
abbrev TT:=St->Hp->(Bool->Hp->Prop)->Prop
abbrev TA:=St->Hp->(List V->Hp->Prop)->Prop
structure wj where
 nx:St->Hp->Prop
 rt:VK
 bk:St->Hp->Prop:=fun _ _=>False
 ct:St->Hp->Prop:=fun _ _=>False
abbrev TS:=wj->St->Hp->Prop
def EP(X:Cx)(pins:List (Addr×Obj))(σ:St)(Q:VK)(u:Value)(s':Shared):Prop:=∃v H',bJ X pins σ H' s'/\cQ v u/\Q v H'
def TP(X:Cx)(pins:List (Addr×Obj))(σ:St)(Q:Bool->Hp->Prop)(b:Bool)(s':Shared):Prop:=∃H',bJ X pins σ H' s'/\Q b H'
def AP(X:Cx)(pins:List (Addr×Obj))(σ:St)(Q:List V->Hp->Prop)(us:List Value)(s':Shared):Prop:=∃vs H',bJ X pins σ H' s'/\cC vs us/\Q vs H'
def SP(X:Cx)(pins:List (Addr×Obj))(D:wj)(f:Flow)(s':Shared):Prop:=
 match f with
 | .next=>∃σ' H',bJ X pins σ' H' s'/\D.nx σ' H'
 | .brk=>∃σ' H',bJ X pins σ' H' s'/\D.bk σ' H'
 | .cont=>∃σ' H',bJ X pins σ' H' s'/\D.ct σ' H'
 | .ret u=>∃v σ' H',bJ X pins σ' H' s'/\cQ v u/\D.rt v H'
def PE(X:Cx)(e:Expr)(t:TE):Prop:=
 ∀(pins:List (Addr×Obj)) (s:Shared) (σ:St) (H:Hp) (Q:VK),bJ X pins σ H s->t σ H Q->wpAny (model X.prog X.w) X.A (eval e X.env) (EP X pins σ Q) X.xe s
def PT(X:Cx)(e:Expr)(t:TT):Prop:=
 ∀(pins:List (Addr×Obj)) (s:Shared) (σ:St) (H:Hp) (Q:Bool->Hp->Prop),bJ X pins σ H s->t σ H Q->wpAny (model X.prog X.w) X.A (isTrue e X.env (eval e X.env)) (TP X pins σ Q) X.xe s
def PW(X:Cx)(e:Expr)(t:TT):Prop:=
 ∀(whole:Sem Value) (pins:List (Addr×Obj)) (s:Shared) (σ:St) (H:Hp) (Q:Bool->Hp->Prop),bJ X pins σ H s->t σ H Q->wpAny (model X.prog X.w) X.A (isTrue e X.env whole) (TP X pins σ Q) X.xe s
theorem PW.pt{X:Cx}{e:Expr}{t:TT}(h:PW X e t):PT X e t:=h _
def PA(X:Cx)(es:List Expr)(t:TA):Prop:=
 ∀(pos:Pos) (pins:List (Addr×Obj)) (s:Shared) (σ:St) (H:Hp) (Q:List V->Hp->Prop),bJ X pins σ H s->t σ H Q->wpAny (model X.prog X.w) X.A (spliced (backTo pos (starEach es X.env))) (AP X pins σ Q) X.xe s
def PS(X:Cx)(st:Stmt)(t:TS):Prop:=
 ∀(pins:List (Addr×Obj)) (s:Shared) (σ:St) (H:Hp) (D:wj),bJ X pins σ H s->t D σ H->wpAny (model X.prog X.w) X.A (exec st X.env) (SP X pins D) X.xe s
def Ek(X:Cx)(st:List Stmt)(t:TS):Prop:=
 ∀(pins:List (Addr×Obj)) (s:Shared) (σ:St) (H:Hp) (D:wj),bJ X pins σ H s->t D σ H->wpAny (model X.prog X.w) X.A (execs st X.env) (SP X pins D) X.xe s
theorem dI{α:Type}{t:Sem α}{Q Q':α->Shared->Prop}{M:Model}{A:Around}{E:Value->Shared->Prop}{s:Shared}(h:wpAny M A t Q E s)(hQ:∀a s,Q a s->Q' a s):wpAny M A t Q' E s:=di h hQ fun _ _ x=>x
section
variable{X:Cx}
def cT(i:Nat):TE:=fun σ H Q=>∃v,σ[i]? =some (some v)/\Q v H
def tC(v:V):TE:=fun _ H Q=>Q v H
theorem RJ{i:Nat}{x:Str}{pos:Pos}(hN:X.N[i]? =some x)(hv:UI X.env.scope x)(hd:(x==("__debug__" :Str))=false:=by decide)(hcd:(x==("__classdict__" :Str))=false:=by decide):PE X (.Name x pos) (cT i):=by
 intro pins s σ H Q I h;obtain⟨v,e,h⟩:=h;obtain⟨m,hn,hl⟩:=I.loc;obtain⟨u,r,l⟩:=hl i x v hN e hv;have fin:EP X pins σ Q u s:=⟨v,H,I,r,h⟩
 rcases l with⟨hk,hm⟩|⟨hk,c,hc,hcell⟩
 ·exact wpAny_Name (wpAny_loadName_local I.ok.kind hk hn hm fin) hd
 ·rcases hk with hk|hk
  ·exact wpAny_Name (wpAny_loadName_cell I.ok.kind hk hc hcell fin) hd
  ·exact wpAny_Name (wpAny_loadName_free I.ok.kind hk hc hcell fin hcd) hd
theorem aY{i j pos} :PE X (.Constant (.int i) j pos) (tC (.int i)):=fun _ _ _ H _ I h=>wpAny_Constant_int ⟨.int i,H,I.tok _,⟨_,rfl⟩,h⟩
theorem mj{b j pos} :PE X (.Constant (.bool b) j pos) (tC (.bl b)):=fun _ _ _ H _ I h=>Constant_bool ⟨.bl b,H,I,rfl,h⟩
theorem mq{j pos} :PE X (.Constant .none j pos) (tC .dY):=fun _ _ _ H _ I h=>Constant_none ⟨.dY,H,I,rfl,h⟩
theorem eK{x j pos} :PE X (.Constant (.str x) j pos) (tC (.str x)):=fun _ _ _ H _ I h=>Calls.Constant_str ⟨.str x,H,I.tok _,⟨_,rfl⟩,h⟩
def Gl(X:Cx)(x:Str):Prop:=X.env.kindOf x=some .globalImplicit
theorem lT{E:Value->Shared->Prop}{pins:List (Addr×Obj)}{s:Shared}{σ:St}{H:Hp}{x:Str}{u:Value}{pos:Pos}{Q:Value->Shared->Prop}(I:bJ X pins σ H s)(hg:Gl X x)(hm:X.mg x=some u)(h:Q u s)
  (hd:(x==("__debug__" :Str))=false:=by decide):wpAny (model X.prog X.w) X.A (eval (.Name x pos) X.env) Q E s:=
 Calls.Name_function_global I.ok.kind hg (Calls.loadGlobal_global (by rw[I.ok.glob];exact I.mod.glob.keeps I.bk) hm h) hd
theorem qw{E:Value->Shared->Prop}{pins:List (Addr×Obj)}{s:Shared}{σ:St}{H:Hp}{x:Str}{u:Value}{pos:Pos}{Q:Value->Shared->Prop}(I:bJ X pins σ H s)(hg:Gl X x)(hm:X.mg x=none)(hv:bootBuiltins x=some u)(h:Q u s)
  (hn:x≠"__name__":=by decide) (hd:(x==("__debug__" :Str))=false:=by decide):wpAny (model X.prog X.w) X.A (eval (.Name x pos) X.env) Q E s:=by
 obtain⟨mb,h1,h2⟩:=I.mod.blt;exact Calls.Name_function_global I.ok.kind hg (Calls.loadGlobal_builtin (by rw[I.ok.glob];exact I.mod.glob.keeps I.bk) hm (by rw[I.ok.blt];exact h1.keeps I.bk) ((h2 x hn).trans hv) h) hd
theorem Io{x:Str}{v:V}{u:Value}{pos:Pos}(hg:Gl X x)(hm:X.mg x=some u)(r:cQ v u)(hd:(x==("__debug__" :Str))=false:=by decide):PE X (.Name x pos) (tC v):=
 fun _ _ _ H _ I h=>lT I hg hm ⟨v,H,I,r,h⟩ hd
variable{a b:Expr}{ta tb:TE}{pos:Pos}
def PC(X:Cx)(op:CmpOp)(a b:Expr)(t:TE):Prop:=
 ∀(pins:List (Addr×Obj)) (s:Shared) (σ:St) (H:Hp) (Q:VK),bJ X pins σ H s->t σ H Q->
  wpAny (model X.prog X.w) X.A (eval a X.env) (fun v s₁=>wpAny (model X.prog X.w) X.A (eval b X.env) (fun u s₂=>wpAny (model X.prog X.w) X.A (compareOp op v u) (EP X pins σ Q) X.xe s₂) X.xe s₁) X.xe s
def tB(t:TE):TT:=fun σ H Q=>t σ H fun x H1=>∃c,x=.bl c/\Q c H1
theorem RK{op:CmpOp}{t:TE}(h:PC X op a b t)(h1:behindInMarks op b=false:=by first|exact LF _ (by decide) (by decide)|rfl):PE X (.Compare a [op] [b] pos) t:=fun pins s σ H Q I hw=>wpAny_Compare1 (h pins s σ H Q I hw) h1
theorem qx{op:CmpOp}{t:TE}(h:PC X op a b t)(h1:behindInMarks op b=false:=by first|exact LF _ (by decide) (by decide)|rfl):PT X (.Compare a [op] [b] pos) (tB t):=by
 intro pins s σ H Q I hw;refine wpAny_isTrue_Compare1 (dI (h pins s σ H _ I hw) fun v s1 h1=>dI h1 fun u s2 h2=>dI h2 fun c s3 eT=>?_) h1;obtain⟨x,H1,I1,r1,q1⟩:=eT;obtain⟨d,rfl,q⟩:=q1;cases r1;exact eF ⟨H1,I1,q⟩
theorem ie{e:Expr}{t:TE}(h:PE X e t)(he:∀whole,isTrue e X.env whole=(do let v <- whole;standAt e.pos;holding [v] (truthy v)):=by intro _;rfl):PT X e (tB t):=by
 intro pins s σ H Q I hw;refine isTrue_plain (dI (h pins s σ H _ I hw) fun v s1 eT=>?_) (he _);obtain⟨x,H1,I1,r1,q1⟩:=eT;obtain⟨d,rfl,q⟩:=q1;cases r1;exact eF ⟨H1,I1,q⟩
variable{tA Xx:TT}{rest:List Expr}
def Yh(t u:TT):TT:=fun σ H Q=>t σ H fun c H1=>if c=true then u σ H1 Q else Q false H1
def tOr(t u:TT):TT:=fun σ H Q=>t σ H fun c H1=>if c=true then Q true H1 else u σ H1 Q
def Yi(t:TT):TT:=fun σ H Q=>t σ H fun c H1=>Q (!c) H1
theorem nv(ha:PT X a tA):PW X (.BoolOp .And [a] pos) tA:=by
 intro wh pins s σ H Q I h;refine isTrue_and (dI (ha pins s σ H Q I h) fun c s1 e=>?_);cases c with
 |true=>exact isTrue_and_nil e
 |false=>exact e
theorem wB(ha:PT X a tA):PW X (.BoolOp .Or [a] pos) tA:=by
 intro wh pins s σ H Q I h;refine isTrue_or (dI (ha pins s σ H Q I h) fun c s1 e=>?_);cases c with
 |false=>exact isTrue_or_nil e
 |true=>exact e
theorem nX(ha:PT X a tA)(hb:PW X (.BoolOp .And (b::rest) pos) Xx):PW X (.BoolOp .And (a::b::rest) pos) (Yh tA Xx):=by
 intro wh pins s σ H Q I h;refine isTrue_and (dI (ha pins s σ H _ I h) fun c s1 ⟨H1,I1,q1⟩=>?_);cases c with
 |true=>exact hb wh pins s1 σ H1 Q I1 q1
 |false=>exact⟨H1,I1,q1⟩
theorem BI(ha:PT X a tA)(hb:PW X (.BoolOp .Or (b::rest) pos) Xx):PW X (.BoolOp .Or (a::b::rest) pos) (tOr tA Xx):=by
 intro wh pins s σ H Q I h;refine isTrue_or (dI (ha pins s σ H _ I h) fun c s1 ⟨H1,I1,q1⟩=>?_);cases c with
 |true=>exact⟨H1,I1,q1⟩
 |false=>exact hb wh pins s1 σ H1 Q I1 q1
theorem mw(ha:PT X a tA):PT X (.UnaryOp .Not a pos) (Yi tA):=by
 intro pins s σ H Q I h;exact isTrue_not (ha pins s σ H (fun c H1=>Q (!c) H1) I h)
def Yj(ta tb:TE):TE:=fun σ H Q=>ta σ H fun x H1=>∃c,x=.bl c/\if c=true then Q (.bl true) H1 else tb σ H1 Q
def Vd(ta:TE):TE:=fun σ H Q=>ta σ H fun x H1=>∃c,x=.bl c/\Q (.bl (!c)) H1
theorem RL{op}{t:TE}(h:PE X a t):PE X (.BoolOp op [a] pos) t:=fun pins s σ H Q I hw=>BoolOp_one (h pins s σ H Q I hw)
theorem Ve(ha:PE X a ta)(hb:PE X (.BoolOp .Or (b::rest) pos) tb):PE X (.BoolOp .Or (a::b::rest) pos) (Yj ta tb):=by
 intro pins s σ H Q I h;refine BoolOp_or (dI (ha pins s σ H _ I h) fun v s1 eT=>?_);obtain⟨x,H1,I1,r1,q1⟩:=eT;obtain⟨c,rfl,q1⟩:=q1;cases r1;refine eF ?_;cases c with
 |false=>exact hb pins s1 σ H1 Q I1 q1
 |true=>exact⟨.bl true,H1,I1,rfl,q1⟩
theorem RM(ha:PE X a ta):PE X (.UnaryOp .Not a pos) (Vd ta):=by
 intro pins s σ H Q I h;refine UnaryOp_ (dI (ha pins s σ H _ I h) fun v s1 eT=>?_);obtain⟨x,H1,I1,r1,q1⟩:=eT;obtain⟨c,rfl,q1⟩:=q1;cases r1;exact not_of (eF ⟨.bl (!c),H1,I1,rfl,q1⟩)
def Yk(t:TT)(ta tb:TE):TE:=fun σ H Q=>t σ H fun c H1=>if c=true then ta σ H1 Q else tb σ H1 Q
theorem uR{c:Expr}(hc:PT X c tA)(ha:PE X a ta)(hb:PE X b tb):PE X (.IfExp c a b pos) (Yk tA ta tb):=by
 intro pins s σ H Q I h;refine wpAny_IfExp (dI (hc pins s σ H _ I h) fun d s1 ⟨H1,I1,q1⟩=>?_);cases d with
 |true=>exact ha pins s1 σ H1 Q I1 q1
 |false=>exact hb pins s1 σ H1 Q I1 q1
end
def cI(K:PySem.W.Frag)(H:Hp)(a:Addr)(xs:List V):Prop:=
 Rd H a (.lst xs)\/
  ∃(o:Obj) (its:Array Value) (n:Nat),K.lookup a=some o/\o.cls=.type "list"/\o.dict=none/\o.data=.seq its n/\its.size<=sizeLine/\cC xs its.toList
def lD(K:PySem.W.Frag)(H:Hp)(a:Addr)(xs:List V):Prop:=
 Rd H a (.tup xs)\/
  ∃(o:Obj) (its:Array Value) (n:Nat),K.lookup a=some o/\o.cls=.type "tuple"/\o.data=.seq its n/\its.size<=sizeLine/\cC xs its.toList
def Yl:Value->Option V
 | .none=>some .dY
 | .bool b=>some (.bl b)
 | .int i _=>some (.int i)
 | .str x _=>some (.str x)
 | .bytes b _=>some (.Gu b)
 | .float b _=>some (.OO b)
 | .ref a=>some (.ref a)
 | .type n=>some (.ty n)
 |_=>none
theorem cQ.abs{x:V}{u:Value}(r:cQ x u):Yl u=some x:=by
 cases x with
 |dY=>cases r;rfl
 |bl _=>cases r;rfl
 |int _=>obtain⟨t,rfl⟩:=r;rfl
 |str _=>obtain⟨t,rfl⟩:=r;rfl
 |Gu _=>obtain⟨t,rfl⟩:=r;rfl
 |OO _=>obtain⟨t,rfl⟩:=r;rfl
 |ref _=>cases r;rfl
 |ty _=>cases r;rfl
theorem cQ.inj{x y:V}{u:Value}(r:cQ x u)(q:cQ y u):x=y:=aQ (r.abs.symm.trans q.abs)
theorem cC.inj:∀{xs ys:List V} {us:List Value},cC xs us->cC ys us->xs=ys
 |_,_,_,.nil,.nil=>rfl
 |_,_,_,.cons r t,.cons r' t'=>by rw[r.inj r',cC.inj t t']
section
variable{X:Cx}{pins:List (Addr×Obj)}{σ:St}{H:Hp}{s:Shared}{a:Addr}{xs ys:List V}
theorem cI.of{K:PySem.W.Frag}(h:H a=some (.lst xs)):cI K H a xs:=.inl (.inl h)
theorem lD.of{K:PySem.W.Frag}(h:H a=some (.tup xs)):lD K H a xs:=.inl (.inl h)
theorem bJ.list(I:bJ X pins σ H s)(h:cI X.K H a xs):∃its:List Value,cC xs its/\PlainL s.heap a its.toArray/\xs.length<=sizeLine:=by
 rcases h with h|⟨o,its,n,hk,hc,hd,hs,hz,r⟩
 ·obtain⟨z,its,n,r,e⟩:=h.ok I.hok;exact⟨its,r,⟨_,n,e,rfl,rfl,rfl⟩,z⟩
 ·refine⟨its.toList,r,⟨o,n,I.o7 a o hk,hc,hd,by simpa using hs⟩,?_⟩;have e:=r.length;simp only[aJ]at e;omega
theorem bJ.tuple(I:bJ X pins σ H s)(h:lD X.K H a xs):∃its:List Value,cC xs its/\IsTup s.heap a its.toArray/\xs.length<=sizeLine:=by
 rcases h with h|⟨o,its,n,hk,hc,hs,hz,r⟩
 ·obtain⟨z,its,r,p⟩:=h.ok I.hok;exact⟨its,r,p,z⟩
 ·refine⟨its.toList,r,⟨o,I.o7 a o hk,hc,n,by simpa using hs⟩,?_⟩;have e:=r.length;simp only[aJ]at e;omega
theorem bJ.qy(I:bJ X pins σ H s)(h:cI X.K H a xs)(h':cI X.K H a ys):xs=ys:=by
 obtain⟨its,r,⟨o,n,e,_,_,d⟩,_⟩:=I.list h;obtain⟨its',r',⟨o',n',e',_,_,d'⟩,_⟩:=I.list h';rw[e]at e';cases e';rw[d]at d';injection d' with d1 _;have:its=its':=by simpa using congrArg Array.toList d1
 subst this;exact r.inj r'
end
abbrev Cx.Bc(X:Cx)(E:Value->Shared->Prop):Cx:={X with xe:=E}
abbrev Cx.Xy(X:Cx):Cx:=X.Bc fun _ _=>False
theorem Cx.Ok.Bc{X:Cx}(ok:X.Ok)(E:Value->Shared->Prop):(X.Bc E).Ok:=
 ⟨ok.mod,ok.kind,ok.glob,ok.blt,ok.above,ok.inj,ok.has,ok.RI,ok.hd,ok.frames,ok.stk,ok.UJ,ok.bs,ok.LD,ok.GA,ok.GB,ok.uP,ok.OR⟩
theorem Cx.Ok.qz{X:Cx}{E:Value->Shared->Prop}(ok:(X.Bc E).Ok):X.Ok:=
 ⟨ok.mod,ok.kind,ok.glob,ok.blt,ok.above,ok.inj,ok.has,ok.RI,ok.hd,ok.frames,ok.stk,ok.UJ,ok.bs,ok.LD,ok.GA,ok.GB,ok.uP,ok.OR⟩
section
variable{X:Cx}{pins:List (Addr×Obj)}{σ:St}{H:Hp}{s:Shared}{E:Value->Shared->Prop}
theorem bJ.Bc(I:bJ X pins σ H s)(E:Value->Shared->Prop):bJ (X.Bc E) pins σ H s:=⟨I.ok.Bc E,I.os,I.bare,I.base,I.loc,I.cell,I.free,I.jh,I.pin,I.hok,I.len⟩
theorem bJ.qz(I:bJ (X.Bc E) pins σ H s):bJ X pins σ H s:=⟨I.ok.qz,I.os,I.bare,I.base,I.loc,I.cell,I.free,I.jh,I.pin,I.hok,I.len⟩
theorem SP.qz{D:wj}{f:Flow}{s':Shared}(h:SP (X.Bc E) pins D f s'):SP X pins D f s':=by
 cases f with
 |next=>obtain⟨σ',H',I,q⟩:=h;exact⟨σ',H',I.qz,q⟩
 |brk=>obtain⟨σ',H',I,q⟩:=h;exact⟨σ',H',I.qz,q⟩
 |cont=>obtain⟨σ',H',I,q⟩:=h;exact⟨σ',H',I.qz,q⟩
 |ret u=>obtain⟨v,σ',H',I,r,q⟩:=h;exact⟨v,σ',H',I.qz,r,q⟩
theorem Ek.Xy{st:List Stmt}{t:TS}(h:Ek X.Xy st t):Ek X st t:=fun pins s σ H D I hw=>
 di (h pins s σ H D (I.Bc _) hw) (fun _ _ q=>q.qz) fun _ _ z=>False.elim z
end
section
variable{X:Cx}{st:Stmt}{rest:List Stmt}{t u:TS}{e:Expr}{te:TE}{pos:Pos}
def El:TS:=fun D σ H=>D.nx σ H
def CO(t u:TS):TS:=fun D σ H=>t {D with nx:=u D} σ H
theorem bC:Ek X [] El:=fun _ _ σ H _ I h=>uL ⟨σ,H,I,h⟩
theorem ay(h1:PS X st t)(h2:Ek X rest u):Ek X (st::rest) (CO t u):=by
 intro pins s σ H D I h;refine wpAny_execs_cons (dI (h1 pins s σ H {D with nx:=u D} I h) fun f s1 q=>?_);cases f with
 |next=>
  obtain⟨σ',H',I',q⟩:=q;exact h2 pins s1 σ' H' D I' q
 |ret v=>exact q
 |brk=>exact q
 |cont=>exact q
theorem aD(h1:PS X st t):Ek X [st] t:=by
 intro pins s σ H D I h;refine wpAny_execs_cons (dI (h1 pins s σ H D I h) fun f s1 q=>?_);cases f with
 |next=>exact uL q
 |ret v=>exact q
 |brk=>exact q
 |cont=>exact q
theorem bJ.quiet{pins:List (Addr×Obj)}{σ:St}{H:Hp}{s:Shared}(I:bJ X pins σ H s):interactive X.env=false:=by simp[interactive,I.ok.kind]
def yS(te:TE):TS:=fun D σ H=>te σ H fun _ H1=>D.nx σ H1
theorem f9(he:PE X e te)(hs:swapsWith e none pos.line X.env=pure false:=by rfl):PS X (.Expr e pos) (yS te):=by
 intro pins s σ H D I h;exact wpAny_Expr_any (dI (he pins s σ H _ I h) fun v s1 ⟨x,H1,I1,r1,q1⟩=>⟨σ,H1,I1,q1⟩) I.quiet hs
def sW(te:TE):TS:=fun D σ H=>te σ H D.rt
theorem aW(he:PE X e te):PS X (.Return (some e) pos) (sW te):=by
 intro pins s σ H D I h;exact wpAny_Return_some (dI (he pins s σ H _ I h) fun v s1 ⟨x,H1,I1,r1,q1⟩=>⟨x,σ,H1,I1,r1,q1⟩)
def LG(c:TT)(t u:TS):TS:=fun D σ H=>c σ H fun b H1=>if b=true then t D σ H1 else u D σ H1
theorem b7{c:Expr}{a b:List Stmt}{tc:TT}(hc:PT X c tc)(ha:Ek X a t)(hb:Ek X b u):PS X (.If c a b pos) (LG tc t u):=by
 intro pins s σ H D I h;refine wpAny_If (dI (hc pins s σ H _ I h) fun d s1 ⟨H1,I1,q1⟩=>?_);cases d with
 |true=>exact ha pins s1 σ H1 D I1 q1
 |false=>exact hb pins s1 σ H1 D I1 q1
end
abbrev TG:=V->St->Hp->(St->Hp->Prop)->Prop
abbrev RN:=List V->St->Hp->(St->Hp->Prop)->Prop
def PG(X:Cx)(target:Expr)(t:TG):Prop:=
 ∀(pins:List (Addr×Obj)) (s:Shared) (σ:St) (H:Hp) (v:V) (u:Value) (Q:St->Hp->Prop),bJ X pins σ H s->cQ v u->t v σ H Q->
  wpAny (model X.prog X.w) X.A (assign target X.env u) (fun _ s'=>∃σ' H',bJ X pins σ' H' s'/\Q σ' H') X.xe s
def Xz(X:Cx)(ts:List Expr)(t:RN):Prop:=
 ∀(pins:List (Addr×Obj)) (s:Shared) (σ:St) (H:Hp) (vs:List V) (us:List Value) (Q:St->Hp->Prop),bJ X pins σ H s->cC vs us->t vs σ H Q->
  wpAny (model X.prog X.w) X.A (assignInOrder ((assignEach ts X.env).map (·.2)) us) (fun _ s'=>∃σ' H',bJ X pins σ' H' s'/\Q σ' H') X.xe s
abbrev XA:=V->V->Hp->VK->Prop
def PIp(X:Cx)(op:Operator)(t:XA):Prop:=
 ∀(pins:List (Addr×Obj)) (s:Shared) (σ:St) (H:Hp) (x y:V) (v u:Value) (Q:VK),bJ X pins σ H s->cQ x v->cQ y u->t x y H Q->
  wpAny (model X.prog X.w) X.A (inplaceOp op v u) (EP X pins σ Q) X.xe s
section
variable{X:Cx}{pos:Pos}
def uS(i:Nat):TG:=fun v σ H Q=>Q (σ.set i (some v)) H
theorem b8{i:Nat}{x:Str}(hN:X.N.Nodup)(hi:X.N[i]? =some x)(hx:Xq X.env.scope x)(hf:X.fn x=true\/X.env.scope.names.lookup x=some .local:=by first|exact .inl rfl|exact .inr rfl|assumption):PG X (.Name x pos) (uS i):=by
 intro pins s σ H v u Q I r h;exact wpAny_assign_Name (qu I hN hi hx r (fun s' I'=>⟨_,H,I',h⟩) hf)
def Vf:RN:=fun vs σ H Q=>vs=[]/\Q σ H
def LH(t:TG)(u:RN):RN:=fun vs σ H Q=>∃v r,vs=v::r/\t v σ H fun σ' H'=>u r σ' H' Q
theorem kC:Xz X [] Vf:=by
 intro pins s σ H vs us Q I r h;obtain⟨e,h⟩:=h;subst e;cases r;exact assignInOrder_nil ⟨σ,H,I,h⟩
theorem dN{e:Expr}{es:List Expr}{t:TG}{u:RN}(h1:PG X e t)(h2:Xz X es u)
  (hs:(assignEach (e::es) X.env).map (·.2)=assign e X.env::(assignEach es X.env).map (·.2):=by rfl):Xz X (e::es) (LH t u):=by
 intro pins s σ H vs us Q I r h;obtain⟨v,vr,e1,h⟩:=h;subst e1;cases r with
 |cons r rr=>
  rw[hs];refine assignInOrder_cons (dI (h1 pins s σ H _ _ _ I r h) fun _ s1 ⟨σ1,H1,I1,q1⟩=>?_);exact h2 pins s1 σ1 H1 _ _ Q I1 rr q1
def Vg(K:PySem.W.Frag)(n:Nat)(t:RN):TG:=fun v σ H Q=>∃a xs,v=.ref a/\lD K H a xs/\xs.length=n/\t xs σ H Q
theorem nY{es:List Expr}{k:Nat}{t:RN}{n:Nat}(hc:X.calm=true)(h:Xz X es t)
  (hn:(assignEach es X.env).length=n:=by rfl) (hst:(assignEach es X.env).findIdx? (·.1)=none:=by rfl):PG X (.Tuple es k pos) (Vg X.K n t):=by
 intro pins s σ H v u Q I r hw;obtain⟨a,xs,e1,hq,hl,hw⟩:=hw;subst e1;cases r;obtain⟨its,rv,ht,hz⟩:=I.tuple hq;refine assign_Tuple_tuple (I.ok.hd hc) ht (by simp[hn, <- hl,rv.length]) hst fun h' hx=>?_;have I1:bJ X pins σ H {s with heap:=h'}:=I.kept (t':=s.toks) fun b o e=>hx b o (aT (aF e)) e;exact h pins _ σ H xs _ Q I1 (by simpa using rv) hw
def RO(te:TE)(g:TG):TS:=fun D σ H=>te σ H fun x H1=>g x σ H1 D.nx
theorem bH{i:Nat}{x:Str}{e:Expr}{te:TE}{pos':Pos}(hN:X.N.Nodup)(hi:X.N[i]? =some x)(hx:Xq X.env.scope x)(he:PE X e te)(hs:swapsWith e (some (.Name x pos')) pos.line X.env=pure false:=by rfl)(hf:X.fn x=true\/X.env.scope.names.lookup x=some .local:=by first|exact .inl rfl|exact .inr rfl|assumption):
  PS X (.Assign [.Name x pos'] e pos) (RO te (uS i)):=by
 intro pins s σ H D I h;refine wpAny_Assign_Name (dI (he pins s σ H _ I h) fun v s1 eT=>?_) hs;obtain⟨y,H1,I1,r1,q1⟩:=eT;exact qu I1 hN hi hx r1 (fun s2 I2=>⟨_,H1,I2,q1⟩) hf
def Ym(i:Nat)(te:TE)(ti:XA):TS:=fun D σ H=>∃x,σ[i]? =some (some x)/\te σ H fun y H1=>ti x y H1 fun z H2=>D.nx (σ.set i (some z)) H2
theorem RP{i:Nat}{x:Str}{e:Expr}{te:TE}{op:Operator}{ti:XA}{pos':Pos}(hN:X.N.Nodup)(hi:X.N[i]? =some x)(hx:Xq X.env.scope x)(he:PE X e te)(ho:PIp X op ti)(hf:X.fn x=true\/X.env.scope.names.lookup x=some .local:=by first|exact .inl rfl|exact .inr rfl|assumption):
  PS X (.AugAssign (.Name x pos') op e pos) (Ym i te ti):=by
 intro pins s σ H D I h;obtain⟨v,e1,h⟩:=h;obtain⟨m,hn,hl⟩:=I.loc;have vis:UI X.env.scope x:=by rcases hx with k|k;exact .inl k;exact .inr (.inl k)
 obtain⟨u,r,l⟩:=hl i x v hi e1 vis;refine wpAny_AugAssign_Name ?_;have go:wpAny (model X.prog X.w) X.A (eval e X.env) (fun w s₂=>wpAny (model X.prog X.w) X.A (inplaceOp op u w) (fun r s₃=>wpAny (model X.prog X.w) X.A (storeName X.env x r) (fun _=>SP X pins D .next) X.xe s₃) X.xe s₂) X.xe s:=by
  refine dI (he pins s σ H _ I h) fun w s1 eT=>?_;obtain⟨y,H1,I1,r1,q1⟩:=eT;refine dI (ho pins s1 σ H1 v y u w _ I1 r r1 q1) fun z s2 eT=>?_;obtain⟨zv,H2,I2,r2,q2⟩:=eT;exact qu I2 hN hi hx r2 (fun s3 I3=>⟨_,H2,I3,q2⟩) hf
 rcases l with⟨hk,hm⟩|⟨hk,c,hc,hcell⟩
 ·exact wpAny_loadName_local I.ok.kind hk hn hm go
 ·rcases hk with hk|hk
  ·exact wpAny_loadName_cell I.ok.kind hk hc hcell go
  ·rcases hx with k|k
   ·have:X.env.scope.names.lookup x=some .free:=hk;rw[k]at this;cases this
   ·have:X.env.scope.names.lookup x=some .free:=hk;rw[k]at this;cases this
def ipI(f:Int->Int->Int):XA:=fun x y H Q=>∃i j,x=.int i/\y=.int j/\Q (.int (f i j)) H
theorem RQ:PIp X .Add (ipI fun i j=>i+j):=by
 intro pins s σ H x y v u Q I r1 r2 h;obtain⟨i,j,e1,e2,q⟩:=h;subst e1;subst e2;obtain⟨t,rfl⟩:=r1;obtain⟨t',rfl⟩:=r2;exact iadd_int ⟨.int _,H,I.tok _,⟨_,rfl⟩,q⟩
def RS(c:TT)(tb:TS):TS:=fun D σ H=>∃W:Nat->St->Hp->Prop,(∃m,W m σ H)/\∀m σ H,W m σ H->
 c σ H fun b H1=>if b=true then ∃N:St->Hp->Prop,(∀σ' H',N σ' H'->∃m',m'<m/\W m' σ' H')/\tb {D with nx:=N,ct:=N,bk:=D.nx} σ H1 else D.nx σ H1
theorem yT{c:Expr}{body:List Stmt}{tc:TT}{tb:TS}(hp:PassesOwn (model X.prog X.w) X.A X.env X.xe)(hc:PT X c tc)(hb:Ek X body tb):PS X (.While c body [] pos) (RS tc tb):=by
 intro pins s σ H D I h;obtain⟨W,⟨m0,w0⟩,turn⟩:=h;refine wpAny_While (codeAny_whileLoop (fun n s'=>∃σ' H',bJ X pins σ' H' s'/\W n σ' H') ?_ m0 ⟨σ,H,I,w0⟩);rintro n s1 ⟨σ1,H1,I1,w1⟩;refine jU hp (dI (hc pins s1 σ1 H1 _ I1 (turn n σ1 H1 w1)) fun b s2 ⟨H2,I2,q2⟩=>?_);cases b with
 |true=>
  obtain⟨N,hN,q2⟩:=q2;rw[aB rfl];refine jU hp (dI (hb pins s2 σ1 H2 _ I2 q2) fun f s3 q3=>?_);cases f with
  |next=>
   obtain⟨σ3,H3,I3,n3⟩:=q3;obtain⟨m',hm,w3⟩:=hN σ3 H3 n3;exact⟨m',hm,σ3,H3,I3,w3⟩
  |cont=>
   obtain⟨σ3,H3,I3,n3⟩:=q3;obtain⟨m',hm,w3⟩:=hN σ3 H3 n3;exact⟨m',hm,σ3,H3,I3,w3⟩
  |brk=>exact q3
  |ret v=>exact q3
 |false=>
  rw[ao aU];exact uL ⟨σ1,H2,I2,q2⟩
end
structure It where
 go:Nat->Hp->Prop
 JV:Nat->Hp->V->Hp->Prop
 stop:Nat->Hp->Prop
def yh(X:Cx)(pins:List (Addr×Obj))(H:Hp)(b:Addr):Prop:=
 H b=none/\b≠X.env.locals/\b∉X.fs/\(b∈X.ex\/X.Bb.heap.objs.size<=b)/\(∀x c,X.env.cells.lookup x=some c->c≠b)/\∀p∈X.pn++pins,p.1≠b
theorem bJ.GC{X:Cx}{pins:List (Addr×Obj)}{σ:St}{H H':Hp}{s:Shared}{b:Addr}(I:bJ X pins σ H s)(hb:s.heap.objs.size<=b)(hn:H' b=none):yh X pins H' b:=by
 refine⟨hn,dz (br I.lt hb),I.Ye hb,.inr (aP I.sz hb),fun x c e z=>?_,fun p hp z=>?_⟩
 ·obtain⟨v,q⟩:=I.cell x c e;exact absurd (br q.lt (by rw[z];exact hb)) (cV _)
 ·exact absurd (br (aF (I.pin p hp).1) (by rw[z];exact hb)) (cV _)
structure yw (P:Program) (w:World) (K:PySem.W.Frag) (tg:Expr) (J:It) (fp:List Addr) (it:Addr) (tn:Nat->Heap->Prop):Prop where
 mem:it∈fp
 obj:∀i h,tn i h->∀b∈fp,∃o,h.get? b=some o/\∀v,o.data≠.cell v
 keep:∀i h h',tn i h->(∀b∈fp,∀o,h.get? b=some o->h'.get? b=some o)->tn i h'
 item:∀(X:Cx),X.prog=P->X.w=w->X.K=K->X.calm=true->∀(i:Nat) (pins:List (Addr×Obj)) (s:Shared) (σ:St) (H:Hp) (E:Value->Shared->Prop),bJ X pins σ H s->(∀b∈fp,yh X pins H b)->tn i s.heap->J.go i H->
  wpAny (model P w) X.A (pyNext (.ref it)) (fun r s1=>∃u,r=some u/\
   wpAny (model P w) X.A (letOwnedTupleGo tg (.ref it) u) (fun _ s2=>∃x H',bJ X pins σ H' s2/\cQ x u/\J.JV i H x H'/\tn (i+1) s2.heap/\∀b∈fp,H' b=none) E s1) E s
 done:∀(X:Cx),X.prog=P->X.w=w->X.K=K->X.calm=true->∀(i:Nat) (pins:List (Addr×Obj)) (s:Shared) (σ:St) (H:Hp) (E:Value->Shared->Prop),bJ X pins σ H s->(∀b∈fp,yh X pins H b)->tn i s.heap->J.stop i H->
  wpAny (model P w) X.A (pyNext (.ref it)) (fun r s1=>r=none/\bJ X pins σ H s1) E s
 self:∀(A:Around) (i:Nat) (s:Shared) (Q:Value->Shared->Prop) (E:Value->Shared->Prop),tn i s.heap->Q (.ref it) s->wpAny (model P w) A (pyIter (.ref it)) Q E s
abbrev TI:=St->Hp->(It->Hp->Prop)->Prop
def Vh(X:Cx)(pins:List (Addr×Obj))(σ:St)(tg:Expr)(R:It->Hp->Prop)(itv:Value)(s2:Shared):Prop:=
 ∃(it:Addr) (fp:List Addr) (tn:Nat->Heap->Prop) (J:It) (H':Hp),itv=.ref it/\bJ X pins σ H' s2/\yw X.prog X.w X.K tg J fp it tn/\tn 0 s2.heap/\(∀b∈fp,yh X pins H' b)/\R J H'
def PI(X:Cx)(tg iter:Expr)(wi:TI):Prop:=
 ∀(pins:List (Addr×Obj)) (s:Shared) (σ:St) (H:Hp) (R:It->Hp->Prop),bJ X pins σ H s->wi σ H R->
  wpAny (model X.prog X.w) X.A (eval iter X.env) (fun v s1=>wpAny (model X.prog X.w) X.A (pyIter v) (Vh X pins σ tg R) X.xe s1) X.xe s
theorem Em{M:Model}{A:Around}{E:Value->Shared->Prop}{s:Shared}{tg:Expr}{it:Addr}{u:Value}{o:Obj}{n:String}{vs:Array Value}{Q:Unit->Shared->Prop}(ho:s.heap.get? it=some o)(hc:o.cls=.type n)(hd:o.data=.fields vs)
  (hn:["enumerate","zip","dict_itemiterator","dict_reverseitemiterator","odict_iterator","itertools.zip_longest","itertools.pairwise"].contains n=false) (hQ:Q () s):wpAny M A (letOwnedTupleGo tg (.ref it) u) Q E s:=by
 unfold letOwnedTupleGo;cases tg<;>first
  |exact ak hQ
  |(cases u<;>first
    |exact ak hQ
    |(refine aa (wpAny_load ho ?_)
      rw[hc,hd];show wpAny M A (if(["enumerate","zip","dict_itemiterator","dict_reverseitemiterator","odict_iterator","itertools.zip_longest","itertools.pairwise"].contains n&&vs[0]? ==some (rawInt _))=true then _ else _) Q E s;rw[ao (by intro h;rw[hn,jX]at h;cases h)];exact ak hQ))
def QX(K:PySem.W.Frag)(a:Addr):It:=
 ⟨fun i H=>∃xs x,cI K H a xs/\xs[i]? =some x,fun i H x H'=>H'=H/\∀xs,cI K H a xs->xs[i]? =some x,fun i H=>∃xs,cI K H a xs/\xs.length<=i⟩
def UL(lo:Int)(n:Nat):It:=⟨fun i _=>i<n,fun i H x H'=>H'=H/\x=.int (lo+i),fun i _=>n<=i⟩
theorem JW{P:Program}{w:World}{K:PySem.W.Frag}{tg:Expr}(a it:Addr):yw P w K tg (QX K a) [it] it (fun i h=>h.IsListIter it a i) where
 mem:=by simp
 obj:=fun i h st b hb=>by
  have e:b=it:=by simpa using hb
  subst e;obtain⟨o,e,c,d⟩:=st;exact⟨o,e,fun v z=>by rw[d]at z;cases z⟩
 keep:=fun i h h' st k=>st.at fun o e=>k it (by simp) o e
 item:=by
  intro X hP hw hK hc i pins s σ H E I hf st hg;subst hP hw hK;obtain⟨xs,x,hq,hx⟩:=hg;obtain⟨its,rv,p,hz⟩:=I.list hq;obtain⟨u,hu,ru⟩:=rv.get hx;obtain⟨f0,f1,f2,f3,f4,f5⟩:=hf it (by simp);refine wpAny_pyNext_list_item st p.isList (x:=u) (by simpa using hu) fun h' st' sb=>?_;have I1:bJ X pins σ H {s with heap:=h'}:=I.turned (t':=s.toks) (fun b o hb e=>(sb.2 b hb).trans e) f0 f1 f3 f4 f5;obtain⟨o,e,c,d⟩:=id st';exact⟨u,rfl,Em (s:={s with heap:=h'}) e c d (by decide) ⟨x,H,I1,ru,⟨rfl,fun ys hy=>by rw[I.qy hy hq];exact hx⟩,st',fun b hb=>(hf b hb).1⟩⟩
 done:=by
  intro X hP hw hK hc i pins s σ H E I hf st hg;subst hP hw hK;obtain⟨xs,hq,hx⟩:=hg;obtain⟨its,rv,p,hz⟩:=I.list hq;obtain⟨f0,f1,f2,f3,f4,f5⟩:=hf it (by simp);have hl:=rv.length;exact wpAny_pyNext_list_end (I.ok.hd hc) st p.isList (by simp;omega) fun h' eb=>⟨rfl,I.turned (t':=s.toks) (fun b o hb e=>eb b o hb e) f0 f1 f3 f4 f5⟩
 self:=fun _ _ _ _ _ st h=>wpAny_pyIter_listiter st h
theorem GF{P:Program}{w:World}{K:PySem.W.Frag}{tg:Expr}(it:Addr)(lo:Int)(n:Nat):yw P w K tg (UL lo n) [it] it (fun i h=>IsRangeIter h it (lo+(i:Nat)*1) ((n:Int)-(i:Nat)) 1) where
 mem:=by simp
 obj:=fun i h st b hb=>by
  have e:b=it:=by simpa using hb
  subst e;exact⟨_,st,fun v z=>by
   have z':Data.fields _=Data.cell v:=z;cases z'⟩
 keep:=fun i h h' st k=>k it (by simp) _ st
 item:=by
  intro X hP hw hK hc i pins s σ H E I hf st hg;subst hP hw hK;obtain⟨f0,f1,f2,f3,f4,f5⟩:=hf it (by simp);have W:=Walks.range (prog:=X.prog) (w:=X.w) (I.ok.hd hc) it lo 1 n;refine W.item i s _ _ hg st fun v h' tk hv st' kk=>?_;obtain⟨t,rfl⟩:=hv;have I1:bJ X pins σ H {s with heap:=h',toks:=tk}:=I.turned (fun b o hb e=>kk b o (by simpa using hb) e) f0 f1 f3 f4 f5;refine⟨_,rfl,Em (s:={s with heap:=h',toks:=tk}) (n:="range_iterator") st' rfl rfl (by decide) ⟨.int (lo+i),H,I1,⟨t,?_⟩,⟨rfl,rfl⟩,st',fun b hb=>(hf b hb).1⟩⟩;rw[Int.mul_one]
 done:=by
  intro X hP hw hK hc i pins s σ H E I hf st hg;subst hP hw hK;obtain⟨f0,f1,f2,f3,f4,f5⟩:=hf it (by simp);exact wpAny_pyNext_range_end (I.ok.hd hc) st (by have:n<=i:=hg;omega) fun h' eb=>⟨rfl,I.turned (t':=s.toks) (fun b o hb e=>eb b o hb e) f0 f1 f3 f4 f5⟩
 self:=fun _ _ _ _ _ st h=>wpAny_pyIter_rangeiter st h
section
variable{X:Cx}{tg:Expr}
def QY(K:PySem.W.Frag)(tl:TE):TI:=fun σ H R=>tl σ H fun x H1=>∃a,x=.ref a/\(∃xs,cI K H1 a xs)/\R (QX K a) H1
theorem fG{l:Expr}{tl:TE}(hl:PE X l tl):PI X tg l (QY X.K tl):=by
 intro pins s σ H R I h;refine dI (hl pins s σ H _ I h) fun v s1 eT=>?_;obtain⟨x,H1,I1,r1,q1⟩:=eT;obtain⟨a,e,⟨xs,hq⟩,q⟩:=q1;subst e;cases r1;obtain⟨its,rv,p,hz⟩:=I1.list hq;refine kT p.isList ?_;refine⟨s1.heap.objs.size,[s1.heap.objs.size],_,_,H1,rfl,I1.kept (t':=s1.toks) fun b o e=>af _ e,JW a _,⟨_,aE _ rfl,rfl,rfl⟩,fun b hb=>?_,q⟩;have e:b=s1.heap.objs.size:=by simpa using hb
 subst e;exact I1.GC (aq _) (I1.hok.fresh (aq _))
theorem LI{pins:List (Addr×Obj)}{σ:St}{H:Hp}{s:Shared}{R:It->Hp->Prop}{E:Value->Shared->Prop}{lo hi:Int}{t u v:Tok}{tk:Nat}(I:bJ X pins σ H s)(h1: -(2 ^ 62)<=lo)(h2:lo<2 ^ 62)(h3: -(2 ^ 62)<=hi)(h4:hi<2 ^ 62)
  (q:R (UL lo (hi-lo).toNat) H):wpAny (model X.prog X.w) X.A (pyIter (.ref s.heap.objs.size)) (Vh X pins σ tg R) E {s with heap:=s.heap.push {cls:=.type "range",data:=.fields #[.int lo t,.int hi u,.int 1 v]},toks:=tk}:=by
 refine wpAny_pyIter_range (IsRange.new ..) (small_one h1 h2 h3 h4) ?_;have I1:bJ X pins σ H {s with heap:=s.heap.push {cls:=.type "range",data:=.fields #[.int lo t,.int hi u,.int 1 v]},toks:=tk}:=I.kept fun b o e=>af _ e;refine⟨(s.heap.push {cls:=.type "range",data:=.fields #[.int lo t,.int hi u,.int 1 v]}).objs.size,[(s.heap.push {cls:=.type "range",data:=.fields #[.int lo t,.int hi u,.int 1 v]}).objs.size],_,_,H,rfl,
  I1.kept (t':=tk) fun b o e=>af _ e,GF _ lo (hi-lo).toNat,?_,fun b hb=>?_,q⟩
 ·have e1:lo+((0:Nat):Int)*1=lo:=by simp
  have e2:(((hi-lo).toNat:Nat):Int)-((0:Nat):Int)=Builtin.Range.rangeSize lo hi 1:=by rw[rangeSize_one];split<;>omega
  show IsRangeIter _ _ (lo+((0:Nat):Int)*1) ((((hi-lo).toNat:Nat):Int)-((0:Nat):Int)) 1;rw[e1,e2];exact aE _ rfl
 ·have e:b=(s.heap.push {cls:=.type "range",data:=.fields #[.int lo t,.int hi u,.int 1 v]}).objs.size:=by simpa using hb
  subst e;exact I1.GC (aq _) (I1.hok.fresh (aq _))
def QZ(ta:TA):TI:=fun σ H R=>ta σ H fun vs H1=>∃i j:Int,vs=[.int i,.int j]/\(-(2 ^ 62)<=i/\i<2 ^ 62/\ -(2 ^ 62)<=j/\j<2 ^ 62)/\R (UL i (j-i).toNat) H1
theorem JX{a b:Expr}{ta:TA}{p pos:Pos}(hg:Gl X "range")(hm:X.mg "range"=none)(ha:PA X [a,b] ta)(hs:starEach [a,b] X.env=[(false,eval a X.env),(false,eval b X.env)]:=by rfl)(hs2:starEach [b] X.env=[(false,eval b X.env)]:=by rfl):
  PI X tg (.Call (.Name "range" p) [a,b] [] pos) (QZ ta):=by
 intro pins s σ H R I h;refine Call_ (qw I hg hm boot_range (gj (dI (ha pos pins s σ H _ I h) fun us s1 eT=>?_) (by rw[hs,hs2]) (by rw[hs2];rfl)));obtain⟨vs,H1,I1,r1,q1⟩:=eT;obtain⟨i,j,e,⟨q1,q2,q3,q4⟩,q⟩:=q1;subst e;cases r1 with
 |cons r rr=>
  cases rr with
  |cons r' rr=>
   cases rr;obtain⟨t,rfl⟩:=r;obtain⟨t',rfl⟩:=r';exact call_range_2 (LI I1 q1 q2 q3 q4 q)
def Yn(wi:TI)(g:TG)(tb:TS):TS:=fun D σ H=>wi σ H fun J H1=>∃W:Nat->Nat->St->Hp->Prop,(∃m,W 0 m σ H1)/\∀i m σ H,W i m σ H->
 (J.stop i H/\D.nx σ H)\/(J.go i H/\∃N:St->Hp->Prop,(∀σ' H',N σ' H'->∃m',m'<m/\W (i+1) m' σ' H')/\∀x H',J.JV i H x H'->g x σ H' fun σ2 H2=>tb {D with nx:=N,ct:=N,bk:=D.nx} σ2 H2)
def yU(fp:List Addr)(h:Heap):List (Addr×Obj):=fp.filterMap fun b=>(h.get? b).map fun o=>(b,o)
theorem uf{fp:List Addr}{h:Heap}{b:Addr}{o:Obj}(hb:b∈fp)(e:h.get? b=some o):(b,o)∈yU fp h:=List.mem_filterMap.mpr ⟨b,hb,by rw[e];rfl⟩
theorem JY{fp:List Addr}{h:Heap}{p:Addr×Obj}(hp:p∈yU fp h):p.1∈fp/\h.get? p.1=some p.2:=by
 obtain⟨b,hb,e⟩:=List.mem_filterMap.mp hp;cases q:h.get? b with
 |none=>rw[q]at e;cases e
 |some o=>
  rw[q]at e;have e':(b,o)=p:=aQ e;subst e';exact⟨hb,q⟩
theorem bJ.pinned{pins:List (Addr×Obj)}{σ:St}{H:Hp}{s:Shared}{fp:List Addr}(I:bJ X pins σ H s)(hf:∀b∈fp,yh X pins H b)(ho:∀b∈fp,∃o,s.heap.get? b=some o/\∀v,o.data≠.cell v):bJ X (pins++yU fp s.heap) σ H s:=
 I.Im fun p hp=>(List.mem_append.mp hp).elim (fun z=>I.pin p (ef _ z)) fun z=>by
  obtain⟨hb,e⟩:=JY z;obtain⟨f0,f1,f2,_⟩:=hf p.1 hb;obtain⟨o,e',d⟩:=ho p.1 hb;rw[e]at e';cases e';exact⟨e,f0,f1,f2,d⟩
theorem bJ.uT{pins pl:List (Addr×Obj)}{σ:St}{H:Hp}{s:Shared}(I:bJ X (pins++pl) σ H s):bJ X pins σ H s:=I.Im fun p hp=>I.pin p (ef _ (r6 _ hp))
theorem i9{iter:Expr}{body:List Stmt}{wi:TI}{g:TG}{tb:TS}{pos:Pos}(hp:PassesOwn (model X.prog X.w) X.A X.env X.xe)(hc:X.calm=true)(hi:PI X tg iter wi)(hg:PG X tg g)(hb:Ek X body tb)
  (hs:∀x,foldedSetIterable iter X.env x=pure x:=by intro _;rfl):PS X (.For tg iter body [] pos) (Yn wi g tb):=by
 intro pins s σ H D I h;refine wpAny_For (dI (hi pins s σ H _ I h) fun v s1 h1=>dI h1 fun itv s2 h2=>?_) hs;obtain⟨it,fp,tn,J,H2,e,I2,T,st2,f2,W,⟨m0,w0⟩,turn⟩:=h2;subst e;have GG:∀{H':Hp},(∀b∈fp,H' b=none)->∀b∈fp,yh X pins H' b:=fun hn b hb=>⟨hn b hb,(f2 b hb).2⟩
 refine codeAny_forLoop_any (fun n s'=>∃i σ' H',bJ X pins σ' H' s'/\tn i s'.heap/\(∀b∈fp,H' b=none)/\W i n σ' H') ?_ m0 ⟨0,σ,H2,I2,st2,fun b hb=>(f2 b hb).1,w0⟩;rintro n s3 ⟨i,σ3,H3,I3,st3,fr3,w3⟩;rcases turn i n σ3 H3 w3 with⟨stop,qn⟩|⟨go,N,hN,step⟩
 ·refine jU hp (dI (T.done X rfl rfl rfl hc i pins s3 σ3 H3 X.xe I3 (GG fr3) st3 stop) fun r s4 ⟨hr,I4⟩=>?_);subst hr;exact uL ⟨σ3,H3,I4,qn⟩
 ·refine jU hp (dI (T.item X rfl rfl rfl hc i pins s3 σ3 H3 X.xe I3 (GG fr3) st3 go) fun r s4 ⟨u,hr,h4⟩=>?_);subst hr;refine jU hp (dI h4 fun _ s5 eT=>?_);obtain⟨x,H5,I5,r5,y5,st5,fr5⟩:=eT;have I5':=I5.pinned (GG fr5) (T.obj _ _ st5);refine jU hp (dI (hg _ s5 σ3 H5 x u _ I5' r5 (step x H5 y5)) fun _ s6 ⟨σ6,H6,I6,q6⟩=>?_);refine jU hp (dI (hb _ s6 σ6 H6 _ I6 q6) fun f s7 q7=>?_);have again:∀{σ7:St} {H7:Hp},bJ X (pins++yU fp s5.heap) σ7 H7 s7->N σ7 H7->∃m,m<n/\∃i σ' H',bJ X pins σ' H' s7/\tn i s7.heap/\(∀b∈fp,H' b=none)/\W i m σ' H':=fun{σ7 H7} I7 n7=>by
   obtain⟨m',hm,w7⟩:=hN σ7 H7 n7;refine⟨m',hm,i+1,σ7,H7,I7.uT,T.keep _ _ _ st5 fun b hb o e=>(I7.pin (b,o) (ef _ (ef _ (uf hb e)))).1,fun b hb=>?_,w7⟩;obtain⟨o,e,d⟩:=T.obj _ _ st5 b hb;exact(I7.pin (b,o) (ef _ (ef _ (uf hb e)))).2.1
  cases f with
  |next=>obtain⟨σ7,H7,I7,n7⟩:=q7;exact again I7 n7
  |cont=>obtain⟨σ7,H7,I7,n7⟩:=q7;exact again I7 n7
  |brk=>obtain⟨σ7,H7,I7,q7⟩:=q7;exact⟨σ7,H7,I7.uT,q7⟩
  |ret v=>obtain⟨x7,σ7,H7,I7,r7,q7⟩:=q7;exact⟨x7,σ7,H7,I7.uT,r7,q7⟩
end
theorem mz{K:PySem.W.Frag}{a:Addr}{xs:List V}{g:TG}{tb:TS}{D:wj}{σ:St}{H:Hp}(Pv:Nat->St->Hp->Prop)(h0:Pv 0 σ H)(hl:∀i σ H,i<=xs.length->Pv i σ H->cI K H a xs)
  (hs:∀i x σ H,xs[i]? =some x->Pv i σ H->g x σ H fun σ2 H2=>tb {D with nx:=Pv (i+1),ct:=Pv (i+1),bk:=D.nx} σ2 H2) (hd:∀σ H,Pv xs.length σ H->D.nx σ H):
  ∃W:Nat->Nat->St->Hp->Prop,(∃m,W 0 m σ H)/\∀i m σ H,W i m σ H->
   ((QX K a).stop i H/\D.nx σ H)\/((QX K a).go i H/\∃N:St->Hp->Prop,(∀σ' H',N σ' H'->∃m',m'<m/\W (i+1) m' σ' H')/\∀x H',(QX K a).JV i H x H'->g x σ H' fun σ2 H2=>tb {D with nx:=N,ct:=N,bk:=D.nx} σ2 H2):=by
 refine⟨fun i m σ H=>m=xs.length-i/\i<=xs.length/\Pv i σ H,⟨xs.length,by simp,bu _,h0⟩,?_⟩;rintro i m σ H ⟨rfl,hi,p⟩;have q:=hl i σ H hi p;by_cases hlt:i<xs.length
 ·refine .inr ⟨⟨xs,xs[i],q,by simp[hlt]⟩,Pv (i+1),fun σ' H' p'=>⟨xs.length-(i+1),by omega,rfl,hlt,p'⟩,fun x H' y=>?_⟩;obtain⟨e,y⟩:=y;subst e;exact hs i x σ _ (y xs q) p
 ·have e:i=xs.length:=by omega
  subst e;exact .inl ⟨⟨xs,q,aq _⟩,hd σ H p⟩
abbrev R2:=V->V->Hp->VK->Prop
def ug(X:Cx)(f:Value->Value->Sem Value)(r:R2):Prop:=
 ∀(pins:List (Addr×Obj)) (s:Shared) (σ:St) (H:Hp) (x y:V) (v u:Value) (Q:VK),bJ X pins σ H s->cQ x v->cQ y u->r x y H Q->
  wpAny (model X.prog X.w) X.A (f v u) (EP X pins σ Q) X.xe s
def lE(X:Cx)(f:Value)(r:List V->Hp->VK->Prop):Prop:=
 ∀(pins:List (Addr×Obj)) (s:Shared) (σ:St) (H:Hp) (xs:List V) (us:List Value) (Q:VK),bJ X pins σ H s->cC xs us->r xs H Q->
  wpAny (model X.prog X.w) X.A (call f us) (EP X pins σ Q) X.xe s
def En(r:R2)(ta tb:TE):TE:=fun σ H Q=>ta σ H fun x H1=>tb σ H1 fun y H2=>r x y H2 Q
def rI(C:Int->Int->Prop)(g:Int->Int->V):R2:=fun x y H Q=>∃i j,x=.int i/\y=.int j/\C i j/\Q (g i j) H
def Lr(g:Int->Int->V):R2:=fun x y H Q=>∃i j,x=.int i/\y=.int j/\Q (g i j) H
section
variable{X:Cx}{a b c:Expr}{ta tb tc:TE}{pos:Pos}
theorem RT(ha:PE X a ta)(hb:PE X b tb){pins:List (Addr×Obj)}{s:Shared}{σ:St}{H:Hp}{R:V->V->Hp->Prop}(I:bJ X pins σ H s)
  (h:ta σ H fun x H1=>tb σ H1 fun y H2=>R x y H2) {Q:Value->Shared->Prop} {f:Value->Value->Sem Value}
  (hf:∀v u s2 x y H2,bJ X pins σ H2 s2->cQ x v->cQ y u->R x y H2->wpAny (model X.prog X.w) X.A (f v u) Q X.xe s2):
  wpAny (model X.prog X.w) X.A (eval a X.env) (fun v s₁=>wpAny (model X.prog X.w) X.A (eval b X.env) (fun u s₂=>wpAny (model X.prog X.w) X.A (f v u) Q X.xe s₂) X.xe s₁) X.xe s:=by
 refine dI (ha pins s σ H _ I h) fun v s1 eT=>?_;obtain⟨x,H1,I1,r1,q1⟩:=eT;refine dI (hb pins s1 σ H1 _ I1 q1) fun u s2 eT=>?_;obtain⟨y,H2,I2,r2,q2⟩:=eT;exact hf v u s2 x y H2 I2 r1 r2 q2
theorem eB{op:Operator}{r:R2}(ho:ug X (binaryOp op) r)(ha:PE X a ta)(hb:PE X b tb):PE X (.BinOp a op b pos) (En r ta tb):=by
 intro pins s σ H Q I h;exact wpAny_BinOp (RT ha hb I h fun v u s2 x y H2 I2 rx ry q=>ho pins s2 σ H2 x y v u Q I2 rx ry q)
theorem opI{f:Value->Value->Sem Value}{C:Int->Int->Prop}{g:Int->Int->Int}
  (rule:∀(i j:Int) (t u:Tok) (s:Shared) (Q:Value->Shared->Prop) (E:Value->Shared->Prop),C i j->Q (.int (g i j) s.toks) {s with toks:=s.toks+1} ->wpAny (model X.prog X.w) X.A (f (.int i t) (.int j u)) Q E s):
  ug X f (rI C fun i j=>.int (g i j)):=by
 intro pins s σ H x y v u Q I rx ry h;obtain⟨i,j,rfl,rfl,hc,q⟩:=h;obtain⟨t,rfl⟩:=rx;obtain⟨t',rfl⟩:=ry;exact rule i j t t' s _ _ hc ⟨.int (g i j),H,I.tok _,⟨_,rfl⟩,q⟩
theorem Vi{f:Value->Value->Sem Value}{g:Int->Int->Int}
  (rule:∀(i j:Int) (t u:Tok) (s:Shared) (Q:Value->Shared->Prop) (E:Value->Shared->Prop),Q (.int (g i j) s.toks) {s with toks:=s.toks+1} ->wpAny (model X.prog X.w) X.A (f (.int i t) (.int j u)) Q E s):
  ug X f (Lr fun i j=>.int (g i j)):=by
 intro pins s σ H x y v u Q I rx ry h;obtain⟨i,j,rfl,rfl,q⟩:=h;obtain⟨t,rfl⟩:=rx;obtain⟨t',rfl⟩:=ry;exact rule i j t t' s _ _ ⟨.int (g i j),H,I.tok _,⟨_,rfl⟩,q⟩
theorem OT{f:Value->Value->Sem Value}{g:Int->Int->Bool}
  (rule:∀(i j:Int) (t u:Tok) (s:Shared) (Q:Value->Shared->Prop) (E:Value->Shared->Prop),Q (.bool (g i j)) s->wpAny (model X.prog X.w) X.A (f (.int i t) (.int j u)) Q E s):
  ug X f (Lr fun i j=>.bl (g i j)):=by
 intro pins s σ H x y v u Q I rx ry h;obtain⟨i,j,rfl,rfl,q⟩:=h;obtain⟨t,rfl⟩:=rx;obtain⟨t',rfl⟩:=ry;exact rule i j t t' s _ _ ⟨.bl (g i j),H,I,rfl,q⟩
def RU(i j:Int):Prop:=(-(2 ^ 64)<i/\i<2 ^ 64)\/(-(2 ^ 64)<j/\j<2 ^ 64)
theorem RU.ok{i j:Int}(h:RU i j):IntMulOk i j:=by
 rcases h with⟨h1,h2⟩|⟨h1,h2⟩
 ·exact .of_left (intBits_le_64 h1 h2)
 ·exact .of_right (intBits_le_64 h1 h2)
theorem k6:ug X (binaryOp .Add) (Lr fun i j=>.int (i+j)):=Vi fun _ _ _ _ _ _ _ q=>add_int q
theorem wC:ug X (binaryOp .Sub) (Lr fun i j=>.int (i-j)):=Vi fun _ _ _ _ _ _ _ q=>sub_int q
theorem LJ:ug X (binaryOp .Mult) (rI RU fun i j=>.int (i*j)):=opI fun _ _ _ _ _ _ _ hc q=>mul_int q hc.ok
theorem RV:ug X (binaryOp .Mod) (rI (fun _ j=>0<j) fun i j=>.int (i%j)):=opI fun i j _ _ _ _ _ hc q=>by
 have h1:(0:Int)<j:=hc;exact mod_int' (by omega) (by rw[Int.fmod_eq_emod_of_nonneg i (by omega)];exact q)
end
def Vj:V->V->Bool
 | .dY,.dY=>true| .dY,.int _=>true| .int _,.dY=>true| .dY,.bl _=>true| .bl _,.dY=>true| .dY,.str _=>true| .str _,.dY=>true
 | .int _,.int _=>true| .bl _,.bl _=>true| .str _,.str _=>true| .Gu _,.Gu _=>true
 | .int _,.str _=>true| .str _,.int _=>true| .bl _,.str _=>true| .str _,.bl _=>true
 |_,_=>false
def rEq:R2:=fun x y H Q=>Vj x y=true/\Q (.bl (decide (x=y))) H
def rNe:R2:=fun x y H Q=>Vj x y=true/\Q (.bl (!decide (x=y))) H
theorem Ip{i j:Int} :decide (V.int i=V.int j)=(i==j):=by
 rw[cR];simp
theorem LK{i j:Bool} :decide (V.bl i=V.bl j)=(i==j):=by
 rw[cR];simp
theorem Iq{i j:Str} :decide (V.str i=V.str j)=(i==j):=by
 rw[cR];simp
theorem Ir{i j:Array UInt8} :decide (V.Gu i=V.Gu j)=(i.toList==j.toList):=by
 rw[cR];cases i;cases j;simp
section
variable{X:Cx}{a b c:Expr}{ta tb tc:TE}{pos:Pos}
theorem dD{pins:List (Addr×Obj)}{σ:St}{H:Hp}{s:Shared}{Q:VK}{k k':Bool}(I:bJ X pins σ H s)(q:Q (.bl k) H)(e:k=k'):EP X pins σ Q (.bool k') s:=by
 subst e;exact⟨.bl k,H,I,rfl,q⟩
theorem gk:ug X (compareOp .Eq) rEq:=by
 intro pins s σ H x y v u Q I rx ry h;obtain⟨hs,q⟩:=h;cases x with
 |dY=>
  cases rx;cases y with
  |dY=>cases ry;exact PySem.EqNone.eq_none_none (dD I q (by simp))
  |bl j=>cases ry;exact PySem.EqNone.eq_none_bool (dD I q (by simp))
  |int j=>obtain⟨t',rfl⟩:=ry;exact PySem.EqNone.eq_none_int (dD I q (by simp))
  |str j=>obtain⟨t',rfl⟩:=ry;exact PySem.EqNone.eq_none_str (dD I q (by simp))
  |_=>exact absurd (show false=true from hs) aU
 |bl i=>
  cases rx;cases y with
  |dY=>cases ry;exact PySem.EqNone.eq_bool_none (dD I q (by simp))
  |bl j=>cases ry;exact eq_bool (dD I q LK)
  |str j=>obtain⟨t',rfl⟩:=ry;exact PySem.EqMixed.eq_bool_str (dD I q (by simp))
  |_=>exact absurd (show false=true from hs) aU
 |int i=>
  obtain⟨t,rfl⟩:=rx;cases y with
  |dY=>cases ry;exact PySem.EqNone.eq_int_none (dD I q (by simp))
  |int j=>obtain⟨t',rfl⟩:=ry;exact eq_int (dD I q Ip)
  |str j=>obtain⟨t',rfl⟩:=ry;exact PySem.EqMixed.eq_int_str (dD I q (by simp))
  |_=>exact absurd (show false=true from hs) aU
 |str i=>
  obtain⟨t,rfl⟩:=rx;cases y with
  |dY=>cases ry;exact PySem.EqNone.eq_str_none (dD I q (by simp))
  |bl j=>cases ry;exact PySem.EqMixed.eq_str_bool (dD I q (by simp))
  |int j=>obtain⟨t',rfl⟩:=ry;exact PySem.EqMixed.eq_str_int (dD I q (by simp))
  |str j=>obtain⟨t',rfl⟩:=ry;exact eq_str (dD I q Iq)
  |_=>exact absurd (show false=true from hs) aU
 |Gu i=>
  obtain⟨t,rfl⟩:=rx;cases y with
  |Gu j=>obtain⟨t',rfl⟩:=ry;exact PySem.W.eq_bytes (dD I q Ir)
  |_=>exact absurd (show false=true from hs) aU
 |_=>cases y<;>exact absurd (show false=true from hs) aU
theorem LL:ug X (compareOp .NotEq) rNe:=by
 intro pins s σ H x y v u Q I rx ry h;obtain⟨hs,q⟩:=h;cases x with
 |dY=>
  cases rx;cases y with
  |dY=>cases ry;exact PySem.EqNone.ne_none_none (dD I q (by simp))
  |bl j=>cases ry;exact PySem.EqNone.ne_none_bool (dD I q (by simp))
  |int j=>obtain⟨t',rfl⟩:=ry;exact PySem.EqNone.ne_none_int (dD I q (by simp))
  |str j=>obtain⟨t',rfl⟩:=ry;exact PySem.EqNone.ne_none_str (dD I q (by simp))
  |_=>exact absurd (show false=true from hs) aU
 |bl i=>
  cases rx;cases y with
  |dY=>cases ry;exact PySem.EqNone.ne_bool_none (dD I q (by simp))
  |bl j=>cases ry;exact ne_bool (dD I q (congrArg not LK))
  |str j=>obtain⟨t',rfl⟩:=ry;exact PySem.EqMixed.ne_bool_str (dD I q (by simp))
  |_=>exact absurd (show false=true from hs) aU
 |int i=>
  obtain⟨t,rfl⟩:=rx;cases y with
  |dY=>cases ry;exact PySem.EqNone.ne_int_none (dD I q (by simp))
  |int j=>obtain⟨t',rfl⟩:=ry;exact ne_int (dD I q (congrArg not Ip))
  |str j=>obtain⟨t',rfl⟩:=ry;exact PySem.EqMixed.ne_int_str (dD I q (by simp))
  |_=>exact absurd (show false=true from hs) aU
 |str i=>
  obtain⟨t,rfl⟩:=rx;cases y with
  |dY=>cases ry;exact PySem.EqNone.ne_str_none (dD I q (by simp))
  |bl j=>cases ry;exact PySem.EqMixed.ne_str_bool (dD I q (by simp))
  |int j=>obtain⟨t',rfl⟩:=ry;exact PySem.EqMixed.ne_str_int (dD I q (by simp))
  |str j=>obtain⟨t',rfl⟩:=ry;exact ne_str (dD I q (congrArg not Iq))
  |_=>exact absurd (show false=true from hs) aU
 |Gu i=>
  obtain⟨t,rfl⟩:=rx;cases y with
  |Gu j=>obtain⟨t',rfl⟩:=ry;exact PySem.W.ne_bytes (dD I q (congrArg not Ir))
  |_=>exact absurd (show false=true from hs) aU
 |_=>cases y<;>exact absurd (show false=true from hs) aU
theorem yV:ug X (compareOp .Lt) (Lr fun i j=>.bl (decide (i<j))):=OT fun _ _ _ _ _ _ _ q=>lt_int q
theorem ny:ug X (compareOp .LtE) (Lr fun i j=>.bl (decide (i<=j))):=OT fun _ _ _ _ _ _ _ q=>le_int q
theorem yW:ug X (compareOp .Gt) (Lr fun i j=>.bl (decide (j<i))):=OT fun _ _ _ _ _ _ _ q=>gt_int q
theorem Vk:ug X (compareOp .GtE) (Lr fun i j=>.bl (decide (j<=i))):=OT fun _ _ _ _ _ _ _ q=>ge_int q
theorem yX:ug X (compareOp .Is) (fun x y H Q=>y=.dY/\Q (.bl (decide (x=.dY))) H):=by
 intro pins s σ H x y v u Q I rx ry h;obtain⟨rfl,q⟩:=h;cases ry;refine is_none_gen (dD I q ?_);cases x<;>first
  |(cases rx;rfl)
  |(obtain⟨t,rfl⟩:=rx;rfl)
theorem CP:ug X (compareOp .IsNot) (fun x y H Q=>y=.dY/\Q (.bl (!decide (x=.dY))) H):=by
 intro pins s σ H x y v u Q I rx ry h;obtain⟨rfl,q⟩:=h;cases ry;refine isnot_none_gen (dD I q ?_);cases x<;>first
  |(cases rx;rfl)
  |(obtain⟨t,rfl⟩:=rx;rfl)
theorem bM(b:Expr){op:CmpOp}(h:op≠.In:=by decide)(h2:op≠.NotIn:=by decide):behindInMarks op b=false:=by
 have e1:(op==CmpOp.In)=false:=by cases op<;>first|rfl|exact absurd rfl h
 have e2:(op==CmpOp.NotIn)=false:=by cases op<;>first|rfl|exact absurd rfl h2
 cases b<;>simp[behindInMarks,e1,e2]
theorem Iu{op:CmpOp}{r:R2}(ho:ug X (compareOp op) r)(ha:PE X a ta)(hb:PE X b tb)(hm:behindInMarks op b=false):PE X (.Compare a [op] [b] pos) (En r ta tb):=by
 intro pins s σ H Q I h;exact wpAny_Compare1 (RT ha hb I h fun v u s2 x y H2 I2 rx ry q=>ho pins s2 σ H2 x y v u Q I2 rx ry q) hm
def p6(t:TE):TT:=fun σ H Q=>t σ H fun x H'=>∃k,x=.bl k/\Q k H'
theorem bz{op:CmpOp}{r:R2}(ho:ug X (compareOp op) r)(ha:PE X a ta)(hb:PE X b tb)(hm:behindInMarks op b=false):PT X (.Compare a [op] [b] pos) (p6 (En r ta tb)):=by
 intro pins s σ H Q I h;refine wpAny_isTrue_Compare1 (dI (ha pins s σ H _ I h) fun v s1 ⟨x,H1,I1,r1,q1⟩=>dI (hb pins s1 σ H1 _ I1 q1) fun u s2 ⟨y,H2,I2,r2,q2⟩=>
  dI (ho pins s2 σ H2 x y v u _ I2 r1 r2 q2) fun c s3 ⟨z,H3,I3,r3,k,e,q3⟩=>?_) hm
 subst e;cases r3;exact eF ⟨H3,I3,q3⟩
def LM(r r':R2)(ta tb tc:TE):TE:=fun σ H Q=>ta σ H fun x H1=>tb σ H1 fun y H2=>r x y H2 fun z H3=>∃k,z=.bl k/\
 (if k=true then tc σ H3 fun w' H4=>r' y w' H4 Q else Q (.bl false) H3)
theorem yY{op op':CmpOp}{r r':R2}(ho:ug X (compareOp op) r)(ho':ug X (compareOp op') r')(ha:PE X a ta)(hb:PE X b tb)(hc:PE X c tc)
  (hm:lastMarks [op,op'] [b,c]=false:=by with_unfolding_all rfl):PE X (.Compare a [op,op'] [b,c] pos) (LM r r' ta tb tc):=by
 intro pins s σ H Q I h;refine Compare_chain (dI (ha pins s σ H _ I h) fun v s1 ⟨x,H1,I1,r1,q1⟩=>chain_link (dI (hb pins s1 σ H1 _ I1 q1) fun u s2 ⟨y,H2,I2,r2,q2⟩=>
  dI (ho pins s2 σ H2 x y v u _ I2 r1 r2 q2) fun d s3 ⟨z,H3,I3,r3,k,e,q3⟩=>?_)) hm
 subst e;cases r3;refine eF ?_;cases k with
 |false=>exact ite_ff ⟨.bl false,H3,I3,rfl,q3⟩
 |true=>exact ite_tt (chain_last (dI (hc pins s3 σ H3 _ I3 q3) fun w' s4 ⟨z',H4,I4,r4,q4⟩=>ho' pins s4 σ H4 y z' u w' Q I4 r2 r4 q4))
theorem yZ{op op':CmpOp}{r r':R2}(ho:ug X (compareOp op) r)(ho':ug X (compareOp op') r')(ha:PE X a ta)(hb:PE X b tb)(hc:PE X c tc)
  (hm:lastMarks [op,op'] [b,c]=false:=by with_unfolding_all rfl):PT X (.Compare a [op,op'] [b,c] pos) (p6 (LM r r' ta tb tc)):=by
 intro pins s σ H Q I h;refine isTrue_chain (dI (ha pins s σ H _ I h) fun v s1 ⟨x,H1,I1,r1,q1⟩=>test_link (dI (hb pins s1 σ H1 _ I1 q1) fun u s2 ⟨y,H2,I2,r2,q2⟩=>
  dI (ho pins s2 σ H2 x y v u _ I2 r1 r2 q2) fun d s3 ⟨z,H3,I3,r3,k,e,q3⟩=>?_)) hm
 subst e;cases r3;refine eF ?_;cases k with
 |false=>
  obtain⟨k',e',q'⟩:=q3;cases e';exact ite_ff ⟨H3,I3,q'⟩
 |true=>
  refine ite_tt (test_last (dI (hc pins s3 σ H3 _ I3 q3) fun w' s4 ⟨z',H4,I4,r4,q4⟩=>dI (ho' pins s4 σ H4 y z' u w' _ I4 r2 r4 q4) fun d' s5 eT=>?_));obtain⟨z2,H5,I5,r5,k2,e2,q5⟩:=eT;subst e2;cases r5;exact eF ⟨H5,I5,q5⟩
theorem GH:(sizeLine:Nat)<2 ^ 63:=by rw[jN];decide
theorem y9:ug X (binaryOp .Add) (fun x y H Q=>∃i j,x=.str i/\y=.str j/\i.length+j.length<=sizeLine/\Q (.str (i++j)) H):=by
 intro pins s σ H x y v u Q I rx ry h;obtain⟨i,j,rfl,rfl,hz,q⟩:=h;obtain⟨t,rfl⟩:=rx;obtain⟨t',rfl⟩:=ry;exact add_str (fun t' tk=>⟨.str (i++j),H,I.tok _,⟨_,rfl⟩,q⟩) hz
theorem vals1{x:V}{us:List Value}(r:cC [x] us):∃u,us=[u]/\cQ x u:=by
 cases r with
 |cons r1 r2=>cases r2;exact⟨_,rfl,r1⟩
theorem CQ:lE X (.type "str") (fun xs H Q=>∃i,xs=[.int i]/\i.natAbs.log2<1920/\Q (.str (toString i)) H):=by
 intro pins s σ H xs us Q I r h;obtain⟨i,rfl,hz,q⟩:=h;obtain⟨u,rfl,t,rfl⟩:=vals1 r;exact PySem.P.str_of_int hz ⟨.str _,H,I.tok _,⟨_,rfl⟩,q⟩
theorem LN:lE X (.builtin "ord") (fun xs H Q=>∃x,xs=[.str x]/\x.length=1/\Q (.int (x.cps.getD 0 0:Nat)) H):=by
 intro pins s σ H xs us Q I r h;obtain⟨x,rfl,hz,q⟩:=h;obtain⟨u,rfl,t,rfl⟩:=vals1 r;exact ord_of_one hz ⟨.int _,H,I.tok _,⟨_,rfl⟩,q⟩
end
structure GJ (h:Heap) (x dx C:Addr) (mA:Str->Option Value):Prop where
 obj:h.get? x=some (PySem.W.instObj C dx)
 ns:h.Ns1 dx mA
 ne:dx≠x
theorem JZ{h:Heap}{dx:Addr}{mA:Str->Option Value}(n:h.Ns1 dx mA):∃od,h.get? dx=some od/\∀name,PySem.W.lookIn name od=some (mA name):=by
 obtain⟨o,es,ep,ho,hd,hk,_,hm⟩:=n;refine⟨o,ho,fun name=>?_⟩;have e:=hm name;unfold nsFind findBy at e;rw[<- Array.find?_toList]at e;unfold PySem.W.lookIn;rw[hd];dsimp only;split
 ·rename_i y q;rw[q]at e;exact congrArg some e
 ·rename_i q;rw[q]at e;have a:es.toList.any (·.refKey)=false:=by
   rw[List.any_eq_false];intro y hy;obtain⟨z,t,hkey⟩:=hk y (Array.mem_toList_iff.mp hy);simp[DictEntry.refKey,hkey]
  have a':¬es.toList.any (·.refKey)=true:=by rw[a];exact aU
  rw[ao a'];exact congrArg some e
theorem GJ.look{h:Heap}{x dx C:Addr}{mA:Str->Option Value}(I:GJ h x dx C mA):∃od,PySem.W.InstAt h x (PySem.W.instObj C dx) C (some od)/\∀name,PySem.W.lookIn name od=some (mA name):=
 let ⟨od,ho,hl⟩:=JZ I.ns
 ⟨od,⟨I.obj,rfl,rfl,ho⟩,hl⟩
section
variable{prog:Program}{w:World}{A:Around}{E:Value->Shared->Prop}{s:Shared}{K:PySem.W.Frag}{x dx C f:Addr}{mA:Str->Option Value}{name:Str}{v:Value}
theorem QS{expr:Bool}{Q:Value->Shared->Prop}(X:K.In s.heap)(I:GJ s.heap x dx C mA)(hg:PySem.W.plainGet K C name=true)(hh:PySem.W.hasDictIn K C=true)
  (ha:PySem.W.findIn K (.ref C) name=some none) (hv:mA name=some v) (hv':PySem.W.handedIn v=true) (h:Q v {s with toks:=s.toks+1}):
  wpAny (model prog w) A (getAttr (.ref x) name expr) Q E s:=by
 obtain⟨od,J,hl⟩:=I.look;exact PySem.W.get_value X J (Eh hg).1 (PySem.W.findObj_own hh ha rfl (by rw[hl,hv])) hv' h
theorem LO{pl:Sem Bool}{Q:Value×List Value->Shared->Prop}(X:K.In s.heap)(I:GJ s.heap x dx C mA)(hg:PySem.W.plainGet K C name=true)
  (hf:PySem.W.findIn K (.ref C) name=some (some (.ref f))) (ht:PySem.W.isFn K (.ref f)=true) (hv:mA name=none) (h:Q (.ref f,[.ref x]) s):
  wpAny (model prog w) A (getMethod (.ref x) name pl) Q E s:=by
 obtain⟨od,J,hl⟩:=I.look;exact PySem.W.method_fn X J (Eh hg).1 (Eh hg).2 hf (beq_iff_eq.mp ht) (by show(PySem.W.lookIn name od).map (·.isSome)=some false;rw[hl,hv];rfl) h
theorem OU{ns:List Str}{Q:Unit->Shared->Prop}(X:K.In s.heap)(I:GJ s.heap x dx C mA)
  (hs:PySem.W.findIn K (.ref C) "__setattr__"=some (some (.builtin "object.__setattr__"))) (hp:PySem.W.plainOver K C=true) (ht:PySem.W.takerIn K C name=some none) (hh:PySem.W.hasDictIn K C=true)
  (hw:PySem.Within mA ns) (hsz:ns.length<=sizeLine)
  (h:∀h',GJ h' x dx C (fun y=>if y=name then some v else mA y)->Heap.SameBut dx s.heap h'->Q () {s with heap:=h',toks:=s.toks+2}):
  wpAny (model prog w) A (setAttr (.ref x) name v) Q E s:=by
 obtain⟨od,J,hl⟩:=I.look;refine PySem.W.set_plain X J hs (PySem.W.osa_open (s:={s with toks:=s.toks+1}) (r:=none) X J hp ht fun b=>?_);obtain⟨cd,hc,hd'⟩:=PySem.W.any_some hh;have hx:s.heap.get? x=some ⟨.ref C,some dx,.plain, #[]⟩:=I.obj;refine aa (ak (aa (aa (wpAny_loadPart hx (aa (PySem.W.Looks.here (s:={s with toks:=s.toks+1}) (PySem.W.looks_clsIn X hc) ?_))))));rw[hd'];refine ak (a:=some dx) (aa (ak (aa ?_)));refine wpAny_nsSet1 (s:={s with toks:=s.toks+1}) I.ns fun h' hn2 hs2=>?_;obtain⟨oD,esD,epD,Yo,Yp,Yq⟩:=hn2.count (PySem.Within.cons name v hw);refine aa (wpAny_lookBehind Yo (by rw[Yp];exact pastItsLine_dict (aP Yq (by rw[az];omega))) ?_);exact ak (h _ ⟨(hs2.2 _ (bP I.ne)).trans I.obj,hn2,I.ne⟩ hs2)
theorem LP{R:Result->Shared->Prop}{vs:List Value}{kw:List (Str×Value)}(X:K.In s.heap)(hm:PySem.W.makesIn K C=true)
  (hi:PySem.W.findIn K (.ref C) "__init__"=some (some (.ref f))) (hf:PySem.W.typeIn K (.ref f)=some (.type "function"))
  (h:codeAny (model prog w) (A.under (.builtin "type.__call__" ⟨.ref C::vs,kw⟩)) (.call (.ref f) ⟨.ref (s.heap.objs.size+1)::vs,kw⟩) (PySem.W.InitBack (s.heap.objs.size+1) R)
   {s with heap:=(s.heap.push PySem.W.emptyDict).push (PySem.W.instObj C s.heap.objs.size)}):
  codeAny (model prog w) A (.call (.ref C) ⟨vs,kw⟩) R s:=by
 obtain⟨hh,g,d,t,os⟩:=s;exact PySem.W.make_core (PySem.W.makes_of X hm) (PySem.W.looks_findIn X hi) (fun self=>PySem.W.bind_fn X self hf) (.inl rfl) h
end
def k7(f:Str)(v:V):List (Str×V)->List (Str×V)
 |[]=>[(f,v)]
 |(g,x)::r=>if g=f then(g,v)::r else(g,x)::k7 f v r
theorem qA(f g:Str)(v:V):∀fs:List (Str×V),(k7 f v fs).lookup g=if g=f then some v else fs.lookup g
 |[]=>by
  show List.lookup g [(f,v)]=_;by_cases h:g=f
  ·have hb:(g==f)=true:=beq_iff_eq.mpr h;simp only[List.lookup,hb,aB h]
  ·have hb:(g==f)=false:=beq_eq_false_iff_ne.mpr h;simp only[List.lookup,hb,ao h]
 |(k,x)::r=>by
  have ih:=qA f g v r;rw[show k7 f v ((k,x)::r)=(if k=f then(k,v)::r else(k,x)::k7 f v r)from rfl];by_cases hk:k=f
  ·rw[aB hk];by_cases h:g=k
   ·have hb:(g==k)=true:=beq_iff_eq.mpr h;simp only[List.lookup,hb,aB (h.trans hk)]
   ·have hb:(g==k)=false:=beq_eq_false_iff_ne.mpr h;simp only[List.lookup,hb,ao (fun e:g=f=>h (e.trans hk.symm))]
  ·rw[ao hk];by_cases h:g=k
   ·have hb:(g==k)=true:=beq_iff_eq.mpr h;simp only[List.lookup,hb,ao (fun e:g=f=>hk (h.symm.trans e))]
   ·have hb:(g==k)=false:=beq_eq_false_iff_ne.mpr h;simp only[List.lookup,hb];exact ih
theorem wD(f:Str)(v:V):∀fs:List (Str×V),f∈(k7 f v fs).map (·.1)/\∀g,g∈fs.map (·.1)->g∈(k7 f v fs).map (·.1)
 |[]=>⟨by simp[k7],fun g h=>by simp at h⟩
 |(k,x)::r=>by
  obtain⟨i1,i2⟩:=wD f v r;rw[show k7 f v ((k,x)::r)=(if k=f then(k,v)::r else(k,x)::k7 f v r)from rfl];by_cases hk:k=f
  ·rw[aB hk];subst hk;exact⟨by simp,fun g h=>by simpa using h⟩
  ·rw[ao hk];refine⟨?_,fun g h=>?_⟩
   ·rw[aV];exact aG _ i1
   ·rw[aV]at h ⊢;rcases List.mem_cons.mp h with e|e
    ·exact List.mem_cons.mpr (.inl e)
    ·exact aG _ (i2 g e)
theorem xB(f:Str)(v:V):∀fs:List (Str×V),(k7 f v fs).length<=fs.length+1
 |[]=>by simp[k7]
 |(k,x)::r=>by
  have ih:=xB f v r;rw[show k7 f v ((k,x)::r)=(if k=f then(k,v)::r else(k,x)::k7 f v r)from rfl];by_cases hk:k=f
  ·rw[aB hk,az,az];omega
  ·rw[ao hk,az,az];omega
theorem nW.some_of{v:V}{o:Option Value}(r:nW (some v) o):∃u,o=some u/\cQ v u:=by
 cases o with
 |none=>exact(show False from r).elim
 |some u=>exact⟨u,rfl,r⟩
theorem nW.none_of{o:Option Value}(r:nW none o):o=none:=by
 cases o with
 |none=>rfl
 |some u=>exact(show False from r).elim
theorem BJ{v:V}{u:Value}(r:cQ v u):PySem.W.handedIn u=true:=by
 cases v with
 |dY=>cases (show u=Value.none from r);rfl
 |bl b=>cases (show u=Value.bool b from r);rfl
 |int i=>obtain⟨t,e⟩:=(show ∃t,u=Value.int i t from r);cases e;rfl
 |str x=>obtain⟨t,e⟩:=(show ∃t,u=Value.str x t from r);cases e;rfl
 |Gu b=>obtain⟨t,e⟩:=(show ∃t,u=Value.bytes b t from r);cases e;rfl
 |OO b=>obtain⟨t,e⟩:=(show ∃t,u=Value.float b t from r);cases e;rfl
 |ref a=>cases (show u=Value.ref a from r);rfl
 |ty n=>cases (show u=Value.type n from r);rfl
section
variable{P:Program}{w:World}{H H':Hp}{h h':Heap}{a C dx:Addr}{fs fs':List (Str×V)}
theorem CS(hok:qp P w H h)(e:H a=some (.ins C dx fs)):∃mA,GJ h a dx C mA/\(∀f,nW (fs.lookup f) (mA f))/\PySem.Within mA (fs.map (·.1))/\fs.length<=1000/\H dx=some (.own a):=by
 obtain⟨d,z,ne,ob,mA,n,r,q⟩:=(show eX P w H h a (.ins C dx fs)from hok a _ e)
 exact⟨mA,⟨ob,n,ne⟩,r,q,z,d⟩
end
structure Gv (K:PySem.W.Frag) (C:Addr):Prop where
 pg:PySem.W.plainGet K C Str.empty=true
 hd:PySem.W.hasDictIn K C=true
 po:PySem.W.plainOver K C=true
 sa:PySem.W.findIn K (.ref C) "__setattr__"=some (some (.builtin "object.__setattr__"))
theorem Gv.get{K:PySem.W.Frag}{C:Addr}(c:Gv K C)(f:Str):PySem.W.plainGet K C f=true:=c.pg
def gA(K:PySem.W.Frag)(C:Addr)(f:Str):Prop:=PySem.W.findIn K (.ref C) f=some none
theorem gA.Vl{K:PySem.W.Frag}{C:Addr}{f:Str}(n:gA K C f):PySem.W.takerIn K C f=some none:=by
 unfold PySem.W.takerIn;rw[show PySem.W.findIn K (.ref C) f=some none from n];rfl
structure OB (K:PySem.W.Frag) (C:Addr) (m:Str) (f:Addr):Prop where
 at_:PySem.W.findIn K (.ref C) m=some (some (.ref f))
 fn:PySem.W.isFn K (.ref f)=true
 kp:PySem.W.keepIn K (.ref f)=true
section
variable{X:Cx}{pins:List (Addr×Obj)}{σ:St}{H:Hp}{s:Shared}{a C dx:Addr}{fs:List (Str×V)}{f:Str}{v:V}{A:Around}{E:Value->Shared->Prop}
theorem zb{b:Bool}{Q:Value->Shared->Prop}(I:bJ X pins σ H s)(e:H a=some (.ins C dx fs))(c:Gv X.K C)(n:gA X.K C f)(l:fs.lookup f=some v)
  (h:∀u s',bJ X pins σ H s'->cQ v u->Q u s'):wpAny (model X.prog X.w) A (getAttr (.ref a) f b) Q E s:=by
 obtain⟨mA,O,r,_,_,_⟩:=CS I.hok e;obtain⟨u,hu,ru⟩:=nW.some_of (v:=v) (o:=mA f) (by rw[<- l];exact r f);exact QS I.o7 O (c.get f) c.hd n hu (BJ ru) (h u _ (I.tok _) ru)
theorem zc{m:Str}{g:Addr}{pl:Sem Bool}{Q:Value×List Value->Shared->Prop}(I:bJ X pins σ H s)(e:H a=some (.ins C dx fs))(c:Gv X.K C)(k:OB X.K C m g)(l:fs.lookup m=none)
  (h:Q (.ref g,[.ref a]) s):wpAny (model X.prog X.w) A (getMethod (.ref a) m pl) Q E s:=by
 obtain⟨mA,O,r,_,_,_⟩:=CS I.hok e;have hn:mA m=none:=nW.none_of (by rw[<- l];exact r m);exact LO I.o7 O (c.get m) k.at_ k.fn hn h
theorem zd{y:V}{u:Value}{Q:Unit->Shared->Prop}(I:bJ X pins σ H s)(e:H a=some (.ins C dx fs))(c:Gv X.K C)(n:gA X.K C f)(hl:fs.length<1000)(ry:cQ y u)
  (h:∀s',bJ X pins σ (upd H a (.ins C dx (k7 f y fs))) s'->Q () s'):wpAny (model X.prog X.w) A (setAttr (.ref a) f u) Q E s:=by
 obtain⟨mA,O,r,wi,_,ho⟩:=CS I.hok e;have hz:(fs.map (·.1)).length<=sizeLine:=by rw[ai,jN];omega
 refine OU I.o7 O c.sa c.po n.Vl c.hd wi hz fun h' O' sb=>h _ ?_;have hd:∃o,h'.get? dx=some o:=let ⟨o,_,_,e',_⟩:=O'.ns;⟨o,e'⟩;refine I.write (x:=a) (e:=dx) (by rw[e];exact True.intro) (.inr ho) (fun b q hb z=>(sb.2 b hb).trans z) hd ?_;refine⟨by rw[aI O.ne];exact ho,?_,O.ne,O'.obj,_,O'.ns,fun g=>?_,fun g hg=>?_⟩
 ·have:=xB f y fs;omega
 ·show nW ((k7 f y fs).lookup g) (if g=f then some u else mA g);rw[qA];by_cases q:g=f
  ·rw[aB q,aB q];exact ry
  ·rw[ao q,ao q];exact r g
 ·by_cases q:g=f
  ·rw[q];exact(wD f y fs).1
  ·refine(wD f y fs).2 g (wi g fun z=>hg ?_);show(if g=f then some u else mA g)=none;rw[ao q];exact z
theorem bJ.made(I:bJ X pins σ H s):bJ X pins σ (upd (upd H s.heap.objs.size (.own (s.heap.objs.size+1))) (s.heap.objs.size+1) (.ins C s.heap.objs.size []))
  {s with heap:=(s.heap.push PySem.W.emptyDict).push (PySem.W.instObj C s.heap.objs.size)}:=by
 have e1:(s.heap.push PySem.W.emptyDict).get? s.heap.objs.size=some PySem.W.emptyDict:=aE s.heap rfl;have e2:((s.heap.push PySem.W.emptyDict).push (PySem.W.instObj C s.heap.objs.size)).get? (s.heap.objs.size+1)=some (PySem.W.instObj C s.heap.objs.size):=by
  have:=aE (s.heap.push PySem.W.emptyDict) (o:=PySem.W.instObj C s.heap.objs.size) rfl
  rwa[bT]at this
 have e3:(s.heap.push PySem.W.emptyDict).Ns s.heap.objs.size (fun _=>none):=⟨PySem.W.emptyDict, #[],_,e1,rfl,(fun e he=>absurd he (by simp)),fun _=>rfl⟩
 have I1:=I.laid (a:=s.heap.objs.size) (o:=.own (s.heap.objs.size+1)) (h':=s.heap.push PySem.W.emptyDict) (t':=s.toks) (fun b u q=>af _ q) (aq _) ⟨_,e1⟩;refine I1.laid (a:=s.heap.objs.size+1) (o:=.ins C s.heap.objs.size []) (t':=s.toks) (fun b u q=>af _ q) (Nat.le_of_eq (bT _ _)) ?_;have ne:s.heap.objs.size≠s.heap.objs.size+1:=aT (fC _);refine⟨by rw[aI ne,aj],bu _,ne,e2,fun _=>none,(Heap.Ns1.of_empty e3).at fun o q=>af _ q,fun _=>True.intro,fun y hy=>absurd rfl hy⟩
theorem Iv{prog:Program}{w:World}{env:Env}{e:Expr}{f:Str}{pos:Pos}{s:Shared}{Q:Value->Shared->Prop}(hb:attributeBase e f env (eval e env)=eval e env)
  (h:wpAny (model prog w) A (eval e env) (fun o s₁=>wpAny (model prog w) A (getAttr o f true) Q E s₁) E s):wpAny (model prog w) A (eval (.Attribute e f pos) env) Q E s:=
 Attribute_any_ h (by rw[arm_eval_Attribute,hb])
end
def LQ(K:PySem.W.Frag)(ta:TE)(f:Str):TE:=fun σ H Q=>ta σ H fun x H1=>∃a C dx fs v,x=.ref a/\H1 a=some (.ins C dx fs)/\Gv K C/\gA K C f/\fs.lookup f=some v/\Q v H1
def Yr(K:PySem.W.Frag)(ta tv:TE)(f:Str):TS:=fun D σ H=>tv σ H fun y H1=>ta σ H1 fun x H2=>∃a C dx fs,x=.ref a/\H2 a=some (.ins C dx fs)/\Gv K C/\gA K C f/\fs.length<1000/\
 D.nx σ (upd H2 a (.ins C dx (k7 f y fs)))
def Vm(X:Cx)(op:Operator)(rd:V->V->Hp->VK->Prop):Prop:=
 ∀(pins:List (Addr×Obj)) (s:Shared) (σ:St) (H:Hp) (x y:V) (u v:Value) (Q:VK),bJ X pins σ H s->cQ x u->cQ y v->rd x y H Q->wpAny (model X.prog X.w) X.A (inplaceOp op u v) (EP X pins σ Q) X.xe s
def Iw(K:PySem.W.Frag)(ta tv:TE)(rd:V->V->Hp->VK->Prop)(f:Str):TS:=fun D σ H=>ta σ H fun x H1=>∃a C dx fs v,x=.ref a/\H1 a=some (.ins C dx fs)/\Gv K C/\gA K C f/\fs.lookup f=some v/\
 tv σ H1 fun y H2=>rd v y H2 fun z H3=>∃Q0 fs',H3 a=some (.ins C Q0 fs')/\fs'.length<1000/\D.nx σ (upd H3 a (.ins C Q0 (k7 f z fs')))
section
variable{X:Cx}{o e value:Expr}{f:Str}{pos pos' tpos:Pos}{ta tv:TE}
theorem bY(he:PE X e ta)(hb:attributeBase e f X.env (eval e X.env)=eval e X.env):PE X (.Attribute e f pos) (LQ X.K ta f):=by
 intro pins s σ H Q I h;refine Iv hb (dI (he pins s σ H _ I h) fun u s1 eT=>?_);obtain⟨x,H1,I1,rx,a,C,dx,fs,v,ex,ea,c,n,l,q⟩:=eT;subst ex;obtain rfl:u=Value.ref a:=rx;exact zb I1 ea c n l fun u' s2 I2 ru=>⟨v,H1,I2,ru,q⟩
theorem k8(ha:PE X o ta)(hv:PE X value tv)(hs:swapsWith value (some (.Attribute o f pos')) pos.line X.env=pure false):PS X (.Assign [.Attribute o f pos'] value pos) (Yr X.K ta tv f):=by
 intro pins s σ H D I h;refine plainObj_wpAny_Assign_Attribute (dI (hv pins s σ H _ I h) fun u s1 ⟨y,H1,I1,ry,q⟩=>dI (ha pins s1 σ H1 _ I1 q) fun ov s2 eT=>?_) hs;obtain⟨x,H2,I2,rx,a,C,dx,fs,ex,ea,c,n,l,q2⟩:=eT;subst ex;obtain rfl:ov=Value.ref a:=rx;exact zd I2 ea c n l ry fun s3 I3=>⟨σ,_,I3,q2⟩
theorem wF{op:Operator}{rd:V->V->Hp->VK->Prop}(ha:PE X o ta)(hv:PE X value tv)(hop:Vm X op rd):PS X (.AugAssign (.Attribute o f tpos) op value pos) (Iw X.K ta tv rd f):=by
 intro pins s σ H D I h;refine wpAny_AugAssign_AttributeAny (dI (ha pins s σ H _ I h) fun ov s1 eT=>?_);obtain⟨x,H1,I1,rx,a,C,dx,fs,v,ex,ea,c,n,l,q⟩:=eT;subst ex;obtain rfl:ov=Value.ref a:=rx;refine zb I1 ea c n l fun u s2 I2 ru=>dI (hv pins s2 σ H1 _ I2 q) fun w3 s3 ⟨y,H2,I3,ry,q3⟩=>dI (hop pins s3 σ H2 v y u w3 _ I3 ru ry q3) fun w4 s4 eT=>?_;obtain⟨z,H3,I4,rz,Q0,fs',ea',l',q4⟩:=eT;exact zd I4 ea' c n l' rz fun s5 I5=>⟨σ,_,I5,q4⟩
def Vn:V->V->Hp->VK->Prop:=fun x y H Q=>∃i j,x=.int i/\y=.int j/\Q (.int (i+j)) H
theorem GK:Vm X .Add Vn:=by
 rintro pins s σ H x y u v Q I rx ry ⟨i,j,rfl,rfl,q⟩;obtain⟨t,rfl⟩:=(show ∃t,u=Value.int i t from rx)
 obtain⟨t',rfl⟩:=(show ∃t',v=Value.int j t' from ry)
 exact PyProof.Rows.iadd_int ⟨.int (i+j),H,I.tok _,⟨_,rfl⟩,q⟩
end
structure iC (k:Nat) (A:Around):Prop where
 hd:A.handled=none
 dp:A.depth+3*k+5<recursionLimit
 un:A.units+16*k+200<cLine
theorem iC.mono{j k:Nat}{A:Around}(r:iC k A)(h:j<=k):iC j A:=⟨r.hd,by have:=r.dp;omega,by have:=r.un;omega⟩
theorem iC.deeper{k:Nat}{A:Around}(r:iC (k+1) A)(env:Env):iC k (A.deeper env):=
 ⟨r.hd,by have:=r.dp;show A.depth+1+3*k+5<_;omega,by have:=r.un;show A.units+3+16*k+200<_;omega⟩
theorem GL{A:Around}{C:Addr}{us:List Value}{kw:List (Str×Value)} :(A.under (.builtin "type.__call__" ⟨.ref C::us,kw⟩)).depth=A.depth+1:=by
 first|rfl|simp[Around.under,Code.weight,Code.isCreation,Code.isGuard,Code.isCaller,Code.frames,Code.isFrame,guardIds]
theorem GN{A:Around}{C:Addr}{us:List Value}{kw:List (Str×Value)} :(A.under (.builtin "type.__call__" ⟨.ref C::us,kw⟩)).units=A.units+1:=by
 first|rfl|simp[Around.under,Code.cUnits,Code.frames,Code.isFrame]
theorem iC.make{k:Nat}{A:Around}(r:iC (k+1) A)(C:Addr)(us:List Value)(kw:List (Str×Value)):iC k (A.under (.builtin "type.__call__" ⟨.ref C::us,kw⟩)):=
 ⟨r.hd,by have:=r.dp;rw[GL];omega,by have:=r.un;rw[GN];omega⟩
theorem iC.depth{k:Nat}{A:Around}(r:iC k A):A.depth<recursionLimit:=by have:=r.dp;omega
theorem iC.units{k:Nat}{A:Around}(r:iC k A):A.units+64<cLine:=by have:=r.un;omega
def fW:TA:=fun _ H Q=>Q [] H
def cE(ta:TE)(tr:TA):TA:=fun σ H Q=>ta σ H fun x H1=>tr σ H1 fun xs H2=>Q (x::xs) H2
section
variable{X:Cx}{e:Expr}{es:List Expr}{te:TE}{t:TA}{pos:Pos}
theorem aA:PA X [] fW:=fun _ _ _ _ H Q I h=>iP ⟨[],H,I,.nil,h⟩
theorem ah(ha:PE X e te)(hr:PA X es t)(hs:starEach (e::es) X.env=(false,eval e X.env)::starEach es X.env:=by rfl):PA X (e::es) (cE te t):=by
 intro pos pins s σ H Q I h;rw[hs];show wpAny _ _ (spliced ((false,eval e X.env)::backTo pos (starEach es X.env))) _ _ s;refine dR (dI (ha pins s σ H _ I h) fun u s1 eT=>?_);obtain⟨x,H1,I1,r1,q1⟩:=eT;exact dI (hr pos pins s1 σ H1 _ I1 q1) fun us s2 ⟨xs,H2,I2,r2,q2⟩=>⟨x::xs,H2,I2,.cons r1 r2,q2⟩
def OV(t:TA):TE:=fun σ H Q=>t σ H fun xs H1=>xs.length<=sizeLine/\∀p,H1 p=none->Q (.ref p) (upd H1 p (.tup xs))
def Eo(t:TA):TE:=fun σ H Q=>t σ H fun xs H1=>xs.length<=sizeLine/\∀p,H1 p=none->Q (.ref p) (upd H1 p (.lst xs))
theorem o9{x1}(h:PA X es t):PE X (.Tuple es x1 pos) (OV t):=by
 intro pins s σ H Q I hq;refine wpAny_Tuple_spliced (dI (h pos pins s σ H _ I hq) fun us s1 ⟨xs,H1,I1,r,z,q⟩=>⟨by rw[<- r.length];exact z,?_⟩);have hf:H1 s1.heap.objs.size=none:=I1.hok.fresh (aq _);refine⟨.ref s1.heap.objs.size,upd H1 s1.heap.objs.size (.tup xs),I1.laid (t':=s1.toks) (fun b u e=>af _ e) (aq _) ?_,rfl,q _ hf⟩;exact⟨z,us,r,⟨_,aE _ rfl,rfl,_,rfl⟩⟩
theorem b6(h:PA X es t):PE X (.List es pos) (Eo t):=by
 intro pins s σ H Q I hq;refine wpAny_List_spliced (dI (h pos pins s σ H _ I hq) fun us s1 ⟨xs,H1,I1,r,z,q⟩=>⟨by rw[<- r.length];exact z,?_⟩);have hf:H1 s1.heap.objs.size=none:=I1.hok.fresh (aq _);refine⟨.ref s1.heap.objs.size,upd H1 s1.heap.objs.size (.lst xs),I1.laid (t':=s1.toks) (fun b u e=>af _ e) (aq _) ?_,rfl,q _ hf⟩;exact⟨z,us,0,r,aE _ rfl⟩
end
abbrev Sp:=List V->Hp->VK->XK->Prop
abbrev nZ:=List Env->Hp->Shared->XK->Value->Shared->Prop
structure GO (P:Program) (w:World) (K:PySem.W.Frag) (mg:Str->Option Value) (base:Heap) (A:Around) (outer:List Env) (s:Shared) (H:Hp):Prop where
 frames:A.frames=some outer
 mod:Mod K mg base
 bs:∀b o,base.get? b=some o->s.heap.get? b=some o/\H b=none
 LD:base.objs.size<=s.heap.objs.size
 uP:s.heap.FunFrames base outer
 OR:∀b∈frs outer,H b=none
 hok:qp P w H s.heap
 bare:AllBare s.gens
def CE(outer:List Env)(P:Program)(w:World)(H:Hp)(s:Shared)(Q:VK)(u:Value)(s':Shared):Prop:=
 ∃v H',s'.os=s.os/\AllBare s'.gens/\Un (frs outer) [] H H' s.heap s'.heap/\qp P w H' s'.heap/\cQ v u/\Q v H'
def CR(CX:nZ)(outer:List Env)(P:Program)(w:World)(H:Hp)(s:Shared)(Q:VK)(E:XK)(r:Result)(s':Shared):Prop:=
 match r with
 | .ok (.ret u)=>CE outer P w H s Q u s'
 | .ok _=>False
 | .error e=>CX outer H s E e s'
structure jz (P:Program) (w:World) (K:PySem.W.Frag) (mg:Str->Option Value) (base:Heap) (CX:nZ) (k:Nat) (f:Addr) (fd:FuncData) (ps:List Str) (sp:Sp):Prop where
 len:∀vs H Q E,sp vs H Q E->vs.length=ps.length
 run:∀(A:Around) (outer:List Env) (s:Shared) (H:Hp) (args:Args) (us:List Value) (vs:List V) (Q:VK) (E:XK),iC k A->GO P w K mg base A outer s H->BindsTo s fd args (ps.zip us)->cC vs us->sp vs H Q E->
  codeAny (model P w) A (.call (.ref f) args) (CR CX outer P w H s Q E) s
theorem GO.make{P:Program}{w:World}{K:PySem.W.Frag}{mg:Str->Option Value}{base:Heap}{A:Around}{outer:List Env}{s:Shared}{H:Hp}(e:GO P w K mg base A outer s H)(C:Addr)(us:List Value)(kw:List (Str×Value)):
  GO P w K mg base (A.under (.builtin "type.__call__" ⟨.ref C::us,kw⟩)) outer s H:=⟨by first|exact e.frames|(simpa[Around.under,Code.envs,Code.isFrame,pushEnvs]using e.frames),e.mod,e.bs,e.LD,e.uP,e.OR,e.hok,e.bare⟩
section
variable{X:Cx}{pins:List (Addr×Obj)}{σ:St}{H:Hp}{s s':Shared}
theorem bJ.RW(I:bJ X pins σ H s):GO X.prog X.w X.K X.mg X.base X.A X.stack s H:=
 ⟨I.ok.frames,I.ok.mod,I.bs,aP I.ok.LD I.sz,I.stack,I.CN,I.hok,I.bare⟩
theorem bJ.after{Q:VK}{u:Value}(I:bJ X pins σ H s)(h:CE X.stack X.prog X.w H s Q u s'):EP X pins σ Q u s':=by
 obtain⟨v,H',os,bare,un,hok,r,q⟩:=h;obtain⟨hh,g,d,t,os'⟩:=s';obtain rfl:os'=s.os:=os;exact⟨v,H',I.call (h':=hh) (g':=g) (d':=d) (t':=t) (ch:=[]) un hok bare (fun b z=>absurd z (by simp)),r,q⟩
end
def lF(sp:Sp)(wG:List V)(E:XK)(t:TA):TE:=fun σ H Q=>t σ H fun vs H1=>sp (vs++wG) H1 Q E
def BK(C:Addr)(m:Str)(sp:Sp)(wG:List V)(E:XK)(ta:TE)(t:TA):TE:=fun σ H Q=>ta σ H fun x H1=>∃a dx fs,x=.ref a/\H1 a=some (.ins C dx fs)/\fs.lookup m=none/\
 t σ H1 fun vs H2=>sp (x::(vs++wG)) H2 Q E
def Q3(C:Addr)(sp:Sp)(wG:List V)(E:XK)(t:TA):TE:=fun σ H Q=>t σ H fun vs H1=>∀x dx,H1 x=none->H1 dx=none->dx≠x->
 sp (.ref x::(vs++wG)) (upd (upd H1 dx (.own x)) x (.ins C dx [])) (fun v H2=>v=.dY/\Q (.ref x) H2) E
def jn(K:PySem.W.Frag)(fd:FuncData)(ps:List Str)(ds:List Value):Prop:=
 ∀(s:Shared) (us:List Value),K.In s.heap->(us++ds).length=ps.length->BindsTo s fd ⟨us,[]⟩ (ps.zip (us++ds))
theorem jn.all{K:PySem.W.Frag}{fd:FuncData}{ps:List Str}(h:∀us:List Value,us.length=ps.length->bindArgs fd ⟨us,[]⟩=pure (ps.zip us)):jn K fd ps []:=fun s us _ hl=>by
 rw[bq]at hl ⊢;exact .of_eq (h us hl)
def lq(CX:nZ)(X:Cx)(E:XK):Prop:=∀(pins:List (Addr×Obj)) (σ:St) (H:Hp) (s:Shared) (e:Value) (s':Shared),bJ X pins σ H s->CX X.stack H s E e s'->X.xe e s'
section
variable{X:Cx}{CX:nZ}{k:Nat}{f C:Addr}{fd:FuncData}{ps:List Str}{sp:Sp}{wG:List V}{ds:List Value}{E:XK}{x m:Str}{p pos apos:Pos}{e o:Expr}{es:List Expr}{ta:TE}{t:TA}
theorem GP{pins:List (Addr×Obj)}{σ:St}{H:Hp}{s:Shared}{Q:VK}{us:List Value}{vs:List V}(F:jz X.prog X.w X.K X.mg X.base CX k f fd ps sp)(hr:iC k X.A)(hb:jn X.K fd ps ds)(hd:cC wG ds)(hx:lq CX X E)
  (I:bJ X pins σ H s) (r:cC vs us) (h:sp (vs++wG) H Q E):wpAny (model X.prog X.w) X.A (call (.ref f) us) (EP X pins σ Q) X.xe s:=by
 have r2:cC (vs++wG) (us++ds):=r.append hd;have hl:(us++ds).length=ps.length:=by rw[<- r2.length];exact F.len _ _ _ _ h
 refine ow (jQ (F.run X.A X.stack s H ⟨us,[]⟩ (us++ds) (vs++wG) Q E hr I.RW (hb s us I.o7 hl) r2 h) fun r s' hq=>?_);cases r with
 |error e=>exact hx pins σ H s e s' I hq
 |ok fl=>
  cases fl with
  |ret u=>exact I.after hq
  |next=>exact False.elim hq
  |brk=>exact False.elim hq
  |cont=>exact False.elim hq
theorem CT(F:jz X.prog X.w X.K X.mg X.base CX k f fd ps sp)(hr:iC k X.A)(hg:Gl X x)(hm:X.mg x=some (.ref f))(hk:PySem.W.keepIn X.K (.ref f)=true)(hb:jn X.K fd ps ds)(hd:cC wG ds)(hx:lq CX X E)
  (ha:PA X (e::es) t) (hdb:(x==("__debug__" :Str))=false:=by decide) (he:starEach (e::es) X.env=(false,eval e X.env)::starEach es X.env:=by rfl) (hpl:(backTo pos (starEach es X.env)).any (·.1)=false:=by rfl):
  PE X (.Call (.Name x p) (e::es) [] pos) (lF sp wG E t):=by
 intro pins s σ H Q I h;refine fL (lT I hg hm ?_ hdb);refine ud (h₀:=X.base) I.ok.mod.UH hk (dI (ha pos pins s σ H _ I h) fun us s1 ⟨vs,H1,I1,r,q⟩=>⟨I1.o7,?_⟩) he hpl;exact GP F hr hb hd hx I1 r q
theorem OW{pl:Sem Bool}(he:PE X o ta)(c:Gv X.K C)(hm:OB X.K C m f)(F:jz X.prog X.w X.K X.mg X.base CX k f fd ps sp)(hr:iC k X.A)(hb:jn X.K fd ps ds)(hd:cC wG ds)(hx:lq CX X E)(ha:PA X (e::es) t)
  (hst:starEach (e::es) X.env=(false,eval e X.env)::starEach es X.env:=by rfl) (hpl:(backTo pos (starEach es X.env)).any (·.1)=false:=by rfl)
  (ht:eval (.Call (.Attribute o m apos) (e::es) [] pos) X.env=(do
   let ov <- eval o X.env
   standAt apos.atName
   let (f,first) <- holding [ov] (getMethod ov m pl)
   callWith pos f first (backTo pos (starEach (e::es) X.env)) (backToKw pos (keywordEach [] X.env))):=by rfl):
  PE X (.Call (.Attribute o m apos) (e::es) [] pos) (BK C m sp wG E ta t):=by
 intro pins s σ H Q I h;refine PySem.W.methodCall_KW (pl:=pl) (dI (he pins s σ H _ I h) fun u s1 eT=>?_) ht;obtain⟨x,H1,I1,rx,a,dx,fs,ex,ea,l,q⟩:=eT;subst ex;obtain rfl:u=Value.ref a:=rx;refine zc I1 ea c hm l ?_;refine ud (first:=[.ref a]) (h₀:=X.base) I.ok.mod.UH hm.kp (dI (ha pos pins s1 σ H1 _ I1 q) fun us s2 ⟨vs,H2,I2,r,q2⟩=>⟨I2.o7,?_⟩) hst hpl;exact GP (us:=.ref a::us) (vs:=.ref a::vs) F hr hb hd hx I2 (.cons rfl r) q2
theorem LR{pl:Sem Bool}(he:PE X o ta)(c:Gv X.K C)(hm:OB X.K C m f)(F:jz X.prog X.w X.K X.mg X.base CX k f fd ps sp)(hr:iC k X.A)(hb:jn X.K fd ps ds)(hd:cC wG ds)(hx:lq CX X E)
  (ht:eval (.Call (.Attribute o m apos) [] [] pos) X.env=(do
   let ov <- eval o X.env
   standAt apos.atName
   let (f,first) <- holding [ov] (getMethod ov m pl)
   callWith pos f first (backTo pos (starEach [] X.env)) (backToKw pos (keywordEach [] X.env))):=by rfl):
  PE X (.Call (.Attribute o m apos) [] [] pos) (BK C m sp wG E ta fW):=by
 intro pins s σ H Q I h;refine PySem.W.methodCall_KW (pl:=pl) (dI (he pins s σ H _ I h) fun u s1 eT=>?_) ht;obtain⟨x,H1,I1,rx,a,dx,fs,ex,ea,l,q⟩:=eT;subst ex;obtain rfl:u=Value.ref a:=rx;refine zc I1 ea c hm l ?_;exact PySem.W.callWith_K0 (first:=[.ref a]) I1.o7 hm.kp (GP (us:=[.ref a]) (vs:=[.ref a]) F hr hb hd hx I1 (.cons rfl .nil) q)
structure Mk (K:PySem.W.Frag) (C f:Addr):Prop where
 makes:PySem.W.makesIn K C=true
 init:PySem.W.findIn K (.ref C) "__init__"=some (some (.ref f))
 fn:PySem.W.isFn K (.ref f)=true
 kp:PySem.W.keepIn K (.ref C)=true
theorem LS{pins:List (Addr×Obj)}{σ:St}{H:Hp}{s:Shared}{Q:VK}{us:List Value}{vs:List V}(M:Mk X.K C f)(F:jz X.prog X.w X.K X.mg X.base CX k f fd ps sp)(hr:iC (k+1) X.A)(hb:jn X.K fd ps ds)(hd:cC wG ds)
  (hx:lq CX X E) (I:bJ X pins σ H s) (r:cC vs us)
  (h:∀x dx,H x=none->H dx=none->dx≠x->sp (.ref x::(vs++wG)) (upd (upd H dx (.own x)) x (.ins C dx [])) (fun v H2=>v=.dY/\Q (.ref x) H2) E):
  wpAny (model X.prog X.w) X.A (call (.ref C) us) (EP X pins σ Q) X.xe s:=by
 have hq:=h (s.heap.objs.size+1) s.heap.objs.size (I.hok.fresh (gY _)) (I.hok.fresh (aq _)) (aT (fC _));have I2:=bJ.made (C:=C) I;have r2:cC (V.ref (s.heap.objs.size+1)::(vs++wG)) (Value.ref (s.heap.objs.size+1)::(us++ds)):=.cons rfl (r.append hd);have hl:(Value.ref (s.heap.objs.size+1)::us++ds).length=ps.length:=by
  have e:=r2.length;rw[F.len _ _ _ _ hq]at e;exact e.symm
 refine ow (LP (f:=f) I.o7 M.makes M.init (beq_iff_eq.mp M.fn) (jQ (F.run _ X.stack _ _ ⟨Value.ref (s.heap.objs.size+1)::us,[]⟩ (Value.ref (s.heap.objs.size+1)::(us++ds)) _ _ E (hr.make C us [])
  (I2.RW.make C us []) (hb _ (Value.ref (s.heap.objs.size+1)::us) I2.o7 hl) r2 hq) fun r s' hq'=>?_))
 cases r with
 |error e=>exact hx pins σ _ _ e s' I2 hq'
 |ok fl=>
  cases fl with
  |ret u=>
   obtain⟨v,H',I3,rv,ev,q3⟩:=I2.after hq';subst ev;exact⟨rv,⟨V.ref (s.heap.objs.size+1),H',I3,rfl,q3⟩⟩
  |next=>exact False.elim hq'
  |brk=>exact False.elim hq'
  |cont=>exact False.elim hq'
theorem OX(M:Mk X.K C f)(F:jz X.prog X.w X.K X.mg X.base CX k f fd ps sp)(hr:iC (k+1) X.A)(hg:Gl X x)(hm:X.mg x=some (.ref C))(hb:jn X.K fd ps ds)(hd:cC wG ds)(hx:lq CX X E)
  (ha:PA X (e::es) t) (hdb:(x==("__debug__" :Str))=false:=by decide) (he:starEach (e::es) X.env=(false,eval e X.env)::starEach es X.env:=by rfl) (hpl:(backTo pos (starEach es X.env)).any (·.1)=false:=by rfl):
  PE X (.Call (.Name x p) (e::es) [] pos) (Q3 C sp wG E t):=by
 intro pins s σ H Q I h;refine fL (lT I hg hm ?_ hdb);refine ud (h₀:=X.base) I.ok.mod.UH M.kp (dI (ha pos pins s σ H _ I h) fun us s1 ⟨vs,H1,I1,r,q⟩=>⟨I1.o7,?_⟩) he hpl;exact LS M F hr hb hd hx I1 r q
end
def PK(X:Cx)(kws:List Keyword)(t:TA):Prop:=
 ∀(pos:Pos) (pins:List (Addr×Obj)) (s:Shared) (σ:St) (H:Hp) (Q:List V->Hp->Prop),bJ X pins σ H s->t σ H Q->wpAny (model X.prog X.w) X.A (evalAll ((backToKw pos (keywordEach kws X.env)).map (·.2))) (AP X pins σ Q) X.xe s
section
variable{X:Cx}{CX:nZ}{k:Nat}{f C:Addr}{fd:FuncData}{ps ks:List Str}{sp:Sp}{E:XK}{x m:Str}{p pos apos kpos:Pos}{e o:Expr}{es:List Expr}{kws:List Keyword}{te ta:TE}{t tk:TA}{nm:Option Str}
theorem CU:PK X [] fW:=fun _ _ _ _ H Q I h=>wpAny_evalAll_nil ⟨[],H,I,.nil,h⟩
theorem yx(ha:PE X e te)(hr:PK X kws t):PK X (⟨nm,e,kpos⟩::kws) (cE te t):=by
 intro pos pins s σ H Q I h;show wpAny _ _ (evalAll ((do let v <- eval e X.env;standAt pos;pure v)::(backToKw pos (keywordEach kws X.env)).map (·.2))) _ _ s;refine wpAny_evalAll_cons (aa (dI (ha pins s σ H _ I h) fun u s1 ⟨x,H1,I1,r1,q1⟩=>aa (ku (ak ?_))));exact dI (hr pos pins s1 σ H1 _ I1 q1) fun us s2 ⟨xs,H2,I2,r2,q2⟩=>⟨x::xs,H2,I2,.cons r1 r2,q2⟩
variable{g:List Value->List Value->List Value}{gV:List V->List V->List V}
end
structure bh (N P:List Str) (sc:Scope):Prop where
 kind:sc.kind=.function
 co:sc.isCoroutine=false
 gen:sc.isGenerator=false
 nd:N.Nodup
 pre:N.take P.length=P
 par:∀x∈P,sc.names.lookup x=some .local\/sc.names.lookup x=some .cell
 RX:∀y∈sc.names,y.2≠.free
theorem BL{kindOf:Str->Option NameKind}{x:Str} :∀{binds:List (Str×Value)} {m:Str->Option Value},(∀v,(x,v)∉binds)->bindL kindOf binds m x=m x
 |[],_,_=>rfl
 |(n,v)::r,m,h=>by
  unfold bindL;rw[BL fun w hw=>h w (aG _ hw)];split
  ·have:x≠n:=by rintro rfl;exact h v aL
   simp[this]
  ·rfl
theorem BN{kindOf:Str->Option NameKind}{x:Str} :∀{binds:List (Str×Value)} {m:Str->Option Value},(∀v,(x,v)∉binds)->bindC kindOf binds m x=m x
 |[],_,_=>rfl
 |(n,v)::r,m,h=>by
  unfold bindC;rw[BN fun w hw=>h w (aG _ hw)];split
  ·rfl
  ·have:x≠n:=by rintro rfl;exact h v aL
   simp[this]
theorem BO{kindOf:Str->Option NameKind}{x:Str}{v:Value} :∀{P:List Str} {vs:List Value} {i:Nat} {m:Str->Option Value},P.Nodup->P[i]? =some x->vs[i]? =some v->kindOf x=some .local->
  bindL kindOf (P.zip vs) m x=some v
 |[],_,_,_,_,h,_,_=>by simp at h
 |_::_,[],_,_,_,_,h,_=>by simp at h
 |p::P,w::vs,0,m,nd,h1,h2,hk=>by
  simp at h1 h2;subst h1;subst h2;show bindL kindOf ((p,w)::P.zip vs) m p=_;unfold bindL;rw[BL fun v hv=>(List.nodup_cons.mp nd).1 (List.of_mem_zip hv).1,aB hk];simp
 |p::P,w::vs,i+1,m,nd,h1,h2,hk=>by
  show bindL kindOf ((p,w)::P.zip vs) m x=_;unfold bindL;exact BO (i:=i) (List.nodup_cons.mp nd).2 (by simpa using h1) (by simpa using h2) hk
theorem BP{kindOf:Str->Option NameKind}{x:Str}{v:Value} :∀{P:List Str} {vs:List Value} {i:Nat} {m:Str->Option Value},P.Nodup->P[i]? =some x->vs[i]? =some v->kindOf x≠some .local->
  bindC kindOf (P.zip vs) m x=some v
 |[],_,_,_,_,h,_,_=>by simp at h
 |_::_,[],_,_,_,_,h,_=>by simp at h
 |p::P,w::vs,0,m,nd,h1,h2,hk=>by
  simp at h1 h2;subst h1;subst h2;show bindC kindOf ((p,w)::P.zip vs) m p=_;unfold bindC;rw[BN fun v hv=>(List.nodup_cons.mp nd).1 (List.of_mem_zip hv).1,ao hk];simp
 |p::P,w::vs,i+1,m,nd,h1,h2,hk=>by
  show bindC kindOf ((p,w)::P.zip vs) m x=_;unfold bindC;exact BP (i:=i) (List.nodup_cons.mp nd).2 (by simpa using h1) (by simpa using h2) hk
def start(N:List Str)(vs:List V):St:=vs.map some++List.replicate (N.length-vs.length) none
def ze(CX:nZ)(P:Program)(w:World)(K:PySem.W.Frag)(mg:Str->Option Value)(base:Heap)(N:List Str)(qual:Str)(scope:Scope)(f:Addr)(cd:Value)(A:Around)(outer:List Env)(s:Shared)(H:Hp)(E:XK):Cx where
 prog:=P
 w:=w
 K:=K
 mg:=mg
 base:=base
 A:=A.deeper (envOfC qual scope s.heap.objs.size f cd)
 N:=N
 Bb:=s
 RH:=H
 env:=envOfC qual scope s.heap.objs.size f cd
 outer:=outer
 stack:=envOfC qual scope s.heap.objs.size f cd::outer
 ex:=[]
 calm:=true
 fn:=fun _=>true
 pn:=[]
 xe:=fun e s'=>wpAny (model P w) (A.deeper (envOfC qual scope s.heap.objs.size f cd)) (leaving (envOfC qual scope s.heap.objs.size f cd) e) (fun _ s''=>CX outer H s E e s'') (fun e' s''=>CX outer H s E e' s'') s'
theorem Ep{sc:Scope}{n:Nat}{x:Str}(h:sc.names.lookup x=some .cell):∃c,(cellsFrom n sc.names []).lookup x=some c:=by
 have q:=PySem.W.cellsFrom_some sc.names n [] (.inl h);exact Option.isSome_iff_exists.mp q
theorem J0{CX:nZ}{P:Program}{w:World}{K:PySem.W.Frag}{mg:Str->Option Value}{base:Heap}{N ps:List Str}{qual:Str}{scope:Scope}{f:Addr}{cd:Value}{A:Around}{outer:List Env}{s s1:Shared}{H:Hp}{E:XK}{us:List Value}{vs:List V}
  (S:bh N ps scope) (hd:A.handled=none) (e0:GO P w K mg base A outer s H) (hl:vs.length=ps.length) (r:cC vs us)
  (x:InCallC s s.heap.objs.size (bindL (envOfC qual scope s.heap.objs.size f cd).kindOf (ps.zip us) fun _=>none) (cellsFrom (s.heap.objs.size+1) scope.names []) (bindC (envOfC qual scope s.heap.objs.size f cd).kindOf (ps.zip us) fun _=>none) s1):
  bJ (ze CX P w K mg base N qual scope f cd A outer s H E) [] (start N vs) H s1:=by
 have hpl:ps.length<=N.length:=by have:=congrArg List.length S.pre;rw[b4]at this;omega
 obtain⟨h1,tk,rfl,hk⟩:=x.done;have UM:∀b:Addr,b∉(ze CX P w K mg base N qual scope f cd A outer s H E).ex:=fun b z=>absurd (show b∈([]:List Addr)from z) (by simp);refine⟨⟨e0.mod,S.kind,rfl,rfl,aq _,fun y z c h1 h2=>?_,fun y hy=>?_,fun y c _ h=>?_,fun _=>hd,Around.frames_deeper e0.frames,.inr ⟨rfl,rfl⟩,fun b z=>absurd z (UM b),e0.bs,e0.LD,fun b _ _=>UM b,fun b z=>absurd z (UM b),e0.uP,e0.OR⟩,
  rfl,e0.bare,Un.kept hk,⟨_,x.toInCall.ns,fun i y v h1 h2 h3=>?_⟩,fun y c h=>⟨_,x.cell y c h⟩,e0.hok.fresh (aq _),fun y c h=>?_,fun p hp=>absurd (show p∈([]:List (Addr×Obj))from hp) (by simp),e0.hok.kept hk,?_⟩
 ·exact name_of_addr x.apart (bR h1) (bR h2)
 ·have hy:scope.names.lookup y=some .cell\/scope.names.lookup y=some .free:=hy;rcases hy with hy|hy
  ·exact Ep hy
  ·exact absurd rfl (S.RX _ (bR hy))
 ·exact kH (x.above y c (bR h))
 ·have hi:i<vs.length:=by
   unfold start at h2;by_cases hi:i<vs.length
   ·exact hi
   ·rw[List.getElem?_append_right (by simpa using hi)]at h2;rw[List.getElem?_replicate]at h2;split at h2<;>cases h2
  have ha:vs[i]? =some v:=by
   unfold start at h2;rw[List.getElem?_append_left (by simpa using hi),bf]at h2;cases e:vs[i]? with
   |none=>rw[e]at h2;cases h2
   |some a=>rw[e]at h2;cases h2;rfl
  obtain⟨u,hu,rv⟩:=r.get ha;have hp:ps[i]? =some y:=by
   rw[<- S.pre,List.getElem?_take_of_lt (by omega)];exact h1
  have ndP:ps.Nodup:=by rw[<- S.pre];exact S.nd.sublist (List.take_sublist _ _)
  refine⟨u,rv,?_⟩;rcases S.par y (bW hp)with k|k
  ·exact .inl ⟨k,BO ndP hp hu k⟩
  ·obtain⟨c,e⟩:=Ep (n:=s.heap.objs.size+1) k;refine .inr ⟨.inl k,c,e,?_⟩;have q:=x.cell y c e;rw[BP ndP hp hu (by show scope.names.lookup y≠_;rw[k];decide)]at q;exact q
 ·exact e0.hok.fresh (kH (x.above y c (bR h)))
 ·unfold start;show _=N.length;rw[au,ai,List.length_replicate];omega
theorem Q4{CX:nZ}{P:Program}{w:World}{K:PySem.W.Frag}{mg:Str->Option Value}{base:Heap}{k:Nat}{f:Addr}{name qual:Str}{params:Arguments}{body:List Stmt}{scope:Scope}{dV kV doc pm cdv ct oc:Value}{an od:Option Addr}
  {osl:Array (Option Value)} {N ps:List Str} {sp:Sp} (lk:K.lookup f=some ⟨oc,od,.func (PySem.W.fnOf name qual params body scope dV kV doc pm an cdv ct),osl⟩) (hcd:PySem.W.codeIn K cdv qual=true) (S:bh N ps scope)
  (len:∀vs H Q E,sp vs H Q E->vs.length=ps.length)
  (hbody:∀(A:Around) (outer:List Env) (s:Shared) (H:Hp) (vs:List V) (Q:VK) (E:XK),iC k (A.deeper (envOfC qual scope s.heap.objs.size f cdv))->sp vs H Q E->
   ∃t,Ek (ze CX P w K mg base N qual scope f cdv A outer s H E) body t/\t {nx:=fun _ H'=>Q .dY H',rt:=Q} (start N vs) H):
  jz P w K mg base CX (k+1) f (PySem.W.fnOf name qual params body scope dV kV doc pm an cdv ct) ps sp:=by
 refine⟨len,fun A outer s H args us vs Q E hr e0 hb r Ls=>?_⟩;have hl:=len _ _ _ _ Ls;have KX:K.In s.heap:=e0.mod.UH.keeps fun b o e=>(e0.bs b o e).1;have lim:s.heap.NoLimit:=e0.mod.nolimit.keeps fun b o e=>(e0.bs b o e).1;have hkind:∀y∈ps.zip us,scope.names.lookup y.1=some .local\/(scope.names.lookup y.1=some .cell/\((cellsFrom (s.heap.objs.size+1) scope.names []).lookup y.1).isSome=true):=fun⟨n,v⟩ hy=>by
  rcases S.par n (List.of_mem_zip hy).1 with q|q
  ·exact .inl q
  ·exact .inr ⟨q,PySem.W.cellsFrom_some _ _ _ (.inl q)⟩
 refine codeAny_call_function hr.depth (KX _ _ lk) rfl S.co S.gen rfl (PySem.W.codeRec_of KX hcd) (hb _ _ _ _ ?_);refine wpAny_newFunctionEnv_cells S.kind hkind fun env he s1 x=>?_;subst he;refine⟨lim.keeps x.toInCall.keep,codeAny_func ?_⟩;obtain⟨t,ht,hq⟩:=hbody A outer s H vs Q E (hr.deeper _) Ls;have I:bJ (ze CX P w K mg base N qual scope f cdv A outer s H E) [] (start N vs) H s1:=J0 S hr.hd e0 hl r x;refine di (ht [] s1 (start N vs) H _ I hq) (fun fl s' hs=>?_) fun e s' hs=>hs;have fin:∀{σ':St} {H':Hp} {v:V} {u:Value},bJ (ze CX P w K mg base N qual scope f cdv A outer s H E) [] σ' H' s'->cQ v u->Q v H'->CE outer P w H s Q u s':=
  fun{σ' H' v u} J rv q=>⟨v,H',J.os,J.bare,J.base,J.hok,rv,q⟩
 cases fl with
 |ret u=>
  obtain⟨v,σ',H',J,rv,q⟩:=hs;exact fin J rv q
 |next=>
  obtain⟨σ',H',J,q⟩:=hs;exact fin (v:=V.dY) (u:=Value.none) J rfl q
 |brk=>
  obtain⟨_,_,_,q⟩:=hs;exact False.elim q
 |cont=>
  obtain⟨_,_,_,q⟩:=hs;exact False.elim q
section
variable{X:Cx}{x:Str}{p pos:Pos}{e:Expr}{es:List Expr}{t:TA}{id T:String}{r:List V->Hp->VK->Prop}
def Vo(r:List V->Hp->VK->Prop)(t:TA):TE:=fun σ H Q=>t σ H fun vs H1=>r vs H1 Q
theorem eU(hc:lE X (.builtin id) r)(hg:Gl X x)(hm:X.mg x=none)(hv:bootBuiltins x=some (.builtin id))(ha:PA X (e::es) t)(hn:x≠"__name__":=by decide)(hdb:(x==("__debug__" :Str))=false:=by decide)
  (he:starEach (e::es) X.env=(false,eval e X.env)::starEach es X.env:=by rfl) (hpl:(backTo pos (starEach es X.env)).any (·.1)=false:=by rfl):PE X (.Call (.Name x p) (e::es) [] pos) (Vo r t):=by
 intro pins s σ H Q I h;refine fL (qw I hg hm hv ?_ hn hdb);exact PyProof.Rows.callWith_builtin1 (dI (ha pos pins s σ H _ I h) fun us s1 ⟨vs,H1,I1,r1,q1⟩=>hc pins s1 σ H1 vs us Q I1 r1 q1) he hpl
theorem oz(hc:lE X (.type T) r)(hg:Gl X x)(hm:X.mg x=none)(hv:bootBuiltins x=some (.type T))(ha:PA X (e::es) t)(hn:x≠"__name__":=by decide)(hdb:(x==("__debug__" :Str))=false:=by decide)
  (he:starEach (e::es) X.env=(false,eval e X.env)::starEach es X.env:=by rfl) (hpl:(backTo pos (starEach es X.env)).any (·.1)=false:=by rfl):PE X (.Call (.Name x p) (e::es) [] pos) (Vo r t):=by
 intro pins s σ H Q I h;refine fL (qw I hg hm hv ?_ hn hdb);exact gj (dI (ha pos pins s σ H _ I h) fun us s1 ⟨vs,H1,I1,r1,q1⟩=>hc pins s1 σ H1 vs us Q I1 r1 q1) he hpl
end
end L2
namespace HT
open PySem PyProof.Rows
def lexLt:List Int->List Int->Bool
 |[],[]=>false
 |[],_::_=>true
 |_::_,[]=>false
 |x::xs,y::ys=>if x=y then lexLt xs ys else decide (x<y)
theorem pq(x y:Int)(xs ys:List Int):lexLt (x::xs) (y::ys)=if x=y then lexLt xs ys else decide (x<y):=rfl
theorem Bd:lexLt [] []=false:=rfl
theorem zf(y:Int)(ys:List Int):lexLt [] (y::ys)=true:=rfl
theorem zg(x:Int)(xs:List Int):lexLt (x::xs) []=false:=rfl
theorem LU(A:Around)(s:Shared)(a:Int)(t:Tok)(c:Int)(u:Tok):∃e,SeqAt.EqAt A s (.int a t) (.int c u) e/\(e=true↔a=c):=
 ⟨(a==c),SeqAt.EqAt.int_int a t c u,by simp⟩
section
variable{prog:Program}{w:World}{A:Around}{E:Value->Shared->Prop}{s:Shared}
def Es(n d:Nat):Option Int->Nat
 |none=>d
 |some v=>if v<0 then(v+(n:Int)).toNat else min v.toNat n
theorem Et(n d:Nat):Es n d none=d:=rfl
theorem r8(n d k:Nat):Es n d (some (k:Int))=min k n:=by
 show(if(k:Int)<0 then((k:Int)+(n:Int)).toNat else min (k:Int).toNat n)=min k n;rw[ao (by omega),cJ]
end
end HT
namespace L2
open PySem PySem.Spec PyProof.Rows
abbrev TO:=St->Hp->(Option Int->Hp->Prop)->Prop
def PO(X:Cx)(e:Option Expr)(t:TO):Prop:=
 ∀(pins:List (Addr×Obj)) (s:Shared) (σ:St) (H:Hp) (Q:Option Int->Hp->Prop),bJ X pins σ H s->t σ H Q->
  wpAny (model X.prog X.w) X.A (evalPart e X.env) (fun u s'=>∃o H',bJ X pins σ H' s'/\IsPart u o/\Q o H') X.xe s
def OY:TO:=fun _ H Q=>Q none H
def LV(t:TE):TO:=fun σ H Q=>t σ H fun x H1=>∃i,x=.int i/\Q (some i) H1
theorem intsAre_of{ns:List Int} :∀{us:List Value},cC (ns.map V.int) us->IntsAre us ns:=by
 induction ns with
 |nil=>intro us r;rw[qj]at r;cases r;exact .nil
 |cons n ns ih=>
  intro us r;rw[aV]at r;cases r with
  |cons r1 r2=>
   obtain⟨t,e⟩:=r1;subst e;exact .cons n t (ih r2)
section
variable{X:Cx}{e:Expr}{te:TE}{lo hi:Option Expr}{tl th:TO}{pos p2:Pos}
theorem Iz:PO X none OY:=by
 intro pins s σ H Q I h;rw[evalPart_none];exact ak ⟨none,H,I,.none,h⟩
theorem nA(h:PE X e te):PO X (some e) (LV te):=by
 intro pins s σ H Q I hw;rw[evalPart_some];refine dI (h pins s σ H _ I hw) fun u s1 eT=>?_;obtain⟨x,H1,I1,r1,q1⟩:=eT;obtain⟨i,rfl,q⟩:=q1;obtain⟨t,rfl⟩:=r1;exact⟨some i,H1,I1,.int i t,q⟩
def SlR(X:Cx)(r:V->Option Int->Option Int->Hp->VK->Prop):Prop:=
 ∀(pins:List (Addr×Obj)) (s:Shared) (σ:St) (H:Hp) (x:V) (v vl vu:Value) (lo hi:Option Int) (sl:Addr) (Q:VK),bJ X pins σ H s->cQ x v->s.heap.IsSliceOf sl vl vu .none->IsPart vl lo->IsPart vu hi->r x lo hi H Q->
  ∃T id,typeLookup (.type T) "__getitem__"=pure (some (.builtin id))/\s.TypeIs v T/\wpAny (model X.prog X.w) X.A (getItem v (.ref sl)) (EP X pins σ Q) X.xe s
def tSl(r:V->Option Int->Option Int->Hp->VK->Prop)(te:TE)(tl th:TO):TE:=fun σ H Q=>te σ H fun x H1=>tl σ H1 fun l H2=>th σ H2 fun u H3=>r x l u H3 Q
theorem qB{r:V->Option Int->Option Int->Hp->VK->Prop}(hr:SlR X r)(he:PE X e te)(hl:PO X lo tl)(hu:PO X hi th):PE X (.Subscript e (.Slice lo hi none p2) pos) (tSl r te tl th):=by
 intro pins s σ H Q I h;refine Subscript_ (dI (he pins s σ H _ I h) fun v s1 eT=>?_);obtain⟨x,H1,I1,r1,q1⟩:=eT;refine wpAny_Slice (dI (hl pins s1 σ H1 _ I1 q1) fun vl s2 ⟨l,H2,I2,pl,q2⟩=>dI (hu pins s2 σ H2 _ I2 q2) fun vu s3 eT=>?_);obtain⟨u,H3,I3,pu,q3⟩:=eT;rw[evalPart_none];refine ak ?_;have I4:bJ X pins σ H3 {s3 with heap:=s3.heap.push {cls:=.type "slice",data:=.fields #[vl,vu,.none]}}:=I3.kept (t':=s3.toks) fun b ob q=>af _ q;obtain⟨T,id,hT,ht,hg⟩:=hr pins {s3 with heap:=s3.heap.push {cls:=.type "slice",data:=.fields #[vl,vu,.none]}} σ H3 x v vl vu l u s3.heap.objs.size Q I4 r1 (Heap.IsSliceOf.new ..) pl pu q3;show wpAny (model X.prog X.w) X.A (subscriptTail e (.Slice lo hi none p2) v (.ref s3.heap.objs.size)) (EP X pins σ Q) X.xe {s3 with heap:=s3.heap.push {cls:=.type "slice",data:=.fields #[vl,vu,.none]}};exact tail_any (ops:=[.ref s3.heap.objs.size,v]) ht hT hg (by with_unfolding_all rfl)
def pA(xs:List V)(lo hi:Option Int):List V:=(xs.drop (HT.Es xs.length 0 lo)).take (HT.Es xs.length xs.length hi-HT.Es xs.length 0 lo)
theorem Eu(xs:List V)(lo hi:Option Int):(pA xs lo hi).length<=xs.length:=by
 unfold pA;rw[b4,iW];omega
end
def UN(n:Nat)(i:Int):Option Nat:=if 0<=i then(if i<n then some i.toNat else none)else if -(n:Int)<=i then some (i+n).toNat else none
def RY{α:Type}(xs:List α)(i:Int):Option α:=(UN xs.length i).bind fun j=>xs[j]?
theorem OZ{n:Nat}{i:Int}{j:Nat}(h:UN n i=some j):seqIndex? i n=some j/\j<n/\ -(n:Int)<=i/\i<n:=by
 unfold UN at h;by_cases h0:0<=i
 ·rw[aB h0]at h;by_cases h1:i<n
  ·rw[aB h1]at h;have e:i.toNat=j:=aQ h;exact⟨by rw[seqIndex_of h0 h1,e],by omega,by omega,h1⟩
  ·rw[ao h1]at h;cases h
 ·rw[ao h0]at h;by_cases h1: -(n:Int)<=i
  ·rw[aB h1]at h;have e:(i+n).toNat=j:=aQ h;exact⟨by rw[seqIndex_neg (by omega) h1,e],by omega,h1,by omega⟩
  ·rw[ao h1]at h;cases h
theorem IA{α:Type}{xs:List α}{i:Int}{v:α}(h:RY xs i=some v):∃j,seqIndex? i xs.length=some j/\xs[j]? =some v/\j<xs.length/\ -(xs.length:Int)<=i/\i<xs.length:=by
 unfold RY at h;cases e:UN xs.length i with
 |none=>rw[e]at h;cases h
 |some j=>
  rw[e]at h;obtain⟨h1,h2,h3,h4⟩:=OZ e;exact⟨j,h1,h,h2,h3,h4⟩
theorem cB{α:Type}{xs:List α}{j:Nat}{v:α}(h:xs[j]? =some v):RY xs (j:Int)=some v:=by
 have hj:j<xs.length:=(List.getElem?_eq_some_iff.mp h).1;have e:UN xs.length (j:Int)=some j:=by
  unfold UN;rw[aB (by omega),aB (by omega)];simp
 unfold RY;rw[e];exact h
def O0(b:Expr):Prop:=∀o i,subscripted b false o i=operate [o,i] (getItem o i)
def Ys(X:Cx)(r:R2):Prop:=
 ∀(value slice:Expr) (pins:List (Addr×Obj)) (s:Shared) (σ:St) (H:Hp) (x y:V) (v u:Value) (Q:VK),bJ X pins σ H s->cQ x v->cQ y u->r x y H Q->
  subscripted slice false v u=operate [v,u] (getItem v u)->wpAny (model X.prog X.w) X.A (subscriptTail value slice v u) (EP X pins σ Q) X.xe s
def MtR(X:Cx)(id:String)(r:V->List V->Hp->VK->Prop):Prop:=
 ∀(pins:List (Addr×Obj)) (s:Shared) (σ:St) (H:Hp) (x:V) (xs:List V) (v:Value) (us:List Value) (Q:VK),bJ X pins σ H s->cQ x v->cC xs us->r x xs H Q->
  wpAny (model X.prog X.w) X.A (call (.builtin id) (v::us)) (EP X pins σ Q) X.xe s
section
variable{X:Cx}{a b:Expr}{ta tb:TE}{pos:Pos}
theorem fJ{r:R2}(hr:Ys X r)(ha:PE X a ta)(hb:PE X b tb)(hs:O0 b):PE X (.Subscript a b pos) (En r ta tb):=by
 intro pins s σ H Q I h;exact Subscript_ (RT ha hb I h fun v u s2 x y H2 I2 rx ry q=>hr a b pins s2 σ H2 x y v u Q I2 rx ry q (hs _ _))
def Yt(K:PySem.W.Frag):R2:=fun x y H Q=>∃p xs i v,x=.ref p/\y=.int i/\cI K H p xs/\RY xs i=some v/\Q v H
def Yu(K:PySem.W.Frag):R2:=fun x y H Q=>∃p xs i v,x=.ref p/\y=.int i/\lD K H p xs/\RY xs i=some v/\Q v H
theorem gR:Ys X (Yt X.K):=by
 intro value slice pins s σ H x y v u Q I rx ry h hs;obtain⟨p,xs,i,z,rfl,rfl,hq,he,q⟩:=h;cases rx;obtain⟨t,rfl⟩:=ry;obtain⟨its,r,pl,hz⟩:=I.list hq;obtain⟨j,h1,h2,h3,h4,h5⟩:=IA he;obtain⟨w,ew,rw'⟩:=r.get h2;have hl:=r.length;have hn:=GH;have fin:EP X pins σ Q w s:=⟨z,H,I,rw',q⟩
 by_cases h0:0<=i
 ·have hj:i.toNat=j:=by
   rw[seqIndex_of h0 h5]at h1;exact aQ h1
  exact item_listR pl.isList h0 (by omega) (by rw[hj];simpa using ew) fin hs
 ·have hj:(i+(its.toArray.size:Int)).toNat=j:=by
   rw[seqIndex_neg (by omega) h4]at h1;rw[bG, <- hl];exact aQ h1
  exact subscriptTail_builtinR (x:=w) pl.isList.typeIs slot_list_getitem.lookup
   (wpAny_getItem_list_neg (Q:=fun r s'=>r=w/\EP X pins σ Q r s') pl.isList (by omega) (by rw[bG]<;>omega) (by omega) (by rw[hj];simpa using ew) ⟨rfl,fin⟩) hs
theorem iQ:Ys X (Yu X.K):=by
 intro value slice pins s σ H x y v u Q I rx ry h hs;obtain⟨p,xs,i,z,rfl,rfl,hq,he,q⟩:=h;cases rx;obtain⟨t,rfl⟩:=ry;obtain⟨its,r,pl,hz⟩:=I.tuple hq;obtain⟨j,h1,h2,h3,h4,h5⟩:=IA he;obtain⟨w,ew,rw'⟩:=r.get h2;have hl:=r.length;have hn:=GH;have fin:EP X pins σ Q w s:=⟨z,H,I,rw',q⟩
 exact subscriptTail_builtinR (x:=w) pl.typeIs slot_tuple_getitem.lookup
  (getItem_tuple (j:=j) (Q:=fun r s'=>r=w/\EP X pins σ Q r s') pl (by omega) (by omega) (by rw[bG, <- hl];exact h1) (by simpa using ew) ⟨rfl,fin⟩) hs
theorem CV(lo hi:Option Int)(n:Nat):(sliceBounds lo hi none n).1=((HT.Es n 0 lo:Nat):Int)/\(sliceBounds lo hi none n).2.1=((HT.Es n n hi:Nat):Int)/\(sliceBounds lo hi none n).2.2=1:=by
 refine⟨?_,?_,rfl⟩
 ·cases lo with
  |none=>simp[sliceBounds,HT.Es]
  |some i=>
   simp only[sliceBounds,HT.Es,Option.getD_none,show(1:Int) > 0 by decide,lu];by_cases h:i<0
   ·simp only[h,lu]<;>omega
   ·simp only[h,nh]<;>omega
 ·cases hi with
  |none=>simp[sliceBounds,HT.Es]
  |some i=>
   simp only[sliceBounds,HT.Es,Option.getD_none,show(1:Int) > 0 by decide,lu];by_cases h:i<0
   ·simp only[h,lu]<;>omega
   ·simp only[h,nh]<;>omega
theorem Be(its:List Value)(lo hi:Option Int):slicePick its.toArray lo hi none=((its.drop (HT.Es its.length 0 lo)).take (HT.Es its.length its.length hi-HT.Es its.length 0 lo)).toArray:=by
 obtain⟨h1,h2,h3⟩:=CV lo hi its.toArray.size;unfold slicePick;rw[h1,h2,h3];simp only[sliceRange_one,pick_run,bG]<;>rfl
def Vp(K:PySem.W.Frag):V->Option Int->Option Int->Hp->VK->Prop:=fun x lo hi H Q=>∃a xs,x=.ref a/\cI K H a xs/\∀p,H p=none->Q (.ref p) (upd H p (.lst (pA xs lo hi)))
theorem uU:SlR X (Vp X.K):=by
 intro pins s σ H x v vl vu lo hi sl Q I rx hs pl pu h;obtain⟨a,xs,rfl,hx,q⟩:=h;cases rx;obtain⟨its,r,ht,hz⟩:=I.list hx;have hlen:=r.length;refine⟨"list",_,slot_list_getitem.lookup,ht.isList.typeIs,?_⟩;refine wpAny_getItem_list_slice ht.isList hs pl pu .none (by simp) ?_ (by rw[bG]<;>omega);rw[Be, <- hlen];refine⟨.ref s.heap.objs.size,_,I.laid (t':=s.toks) (o:=.lst (pA xs lo hi)) (fun b ob q=>af _ q) (aq _) ?_,rfl,q _ (I.hok.fresh (aq _))⟩;exact⟨aP (Eu xs lo hi) hz,_,0,(r.drop (HT.Es xs.length 0 lo)).take (HT.Es xs.length xs.length hi-HT.Es xs.length 0 lo),aE _ rfl⟩
def uV:V->Bool
 | .dY=>true
 | .bl _=>true
 | .int _=>true
 | .str _=>true
 |_=>false
def Q5:V->V->Bool
 | .dY,.dY=>true
 | .bl a,.bl b=>a==b
 | .bl a,.int b=>(if a then 1 else 0)==b
 | .int a,.bl b=>a==(if b then 1 else 0)
 | .int a,.int b=>a==b
 | .str a,.str b=>a==b
 |_,_=>false
theorem RZ{A:Around}{s:Shared}{y x:V}{u v:Value}(ry:cQ y u)(rx:cQ x v)(fy:uV y=true)(fx:uV x=true):SeqAt.EqAt A s u v (Q5 y x):=by
 cases y with
 |dY=>
  cases ry;cases x with
  |dY=>cases rx;exact SeqAt.EqAt.same _
  |bl b=>cases rx;exact SeqAt.EqAt.none_bool b
  |int b=>obtain⟨t,rfl⟩:=rx;exact SeqAt.EqAt.none_int b t
  |str b=>obtain⟨t,rfl⟩:=rx;exact SeqAt.EqAt.none_str b t
  |_=>exact absurd (show false=true from fx) aU
 |bl a=>
  cases ry;cases x with
  |dY=>cases rx;exact SeqAt.EqAt.bool_none a
  |bl b=>cases rx;exact SeqAt.EqAt.bool_bool a b
  |int b=>obtain⟨t,rfl⟩:=rx;exact SeqAt.EqAt.bool_int a b t
  |str b=>obtain⟨t,rfl⟩:=rx;exact SeqAt.EqAt.bool_str a b t
  |_=>exact absurd (show false=true from fx) aU
 |int a=>
  obtain⟨t',rfl⟩:=ry;cases x with
  |dY=>cases rx;exact SeqAt.EqAt.int_none a t'
  |bl b=>cases rx;exact SeqAt.EqAt.int_bool a t' b
  |int b=>obtain⟨t,rfl⟩:=rx;exact SeqAt.EqAt.int_int a t' b t
  |str b=>obtain⟨t,rfl⟩:=rx;exact SeqAt.EqAt.int_str a t' b t
  |_=>exact absurd (show false=true from fx) aU
 |str a=>
  obtain⟨t',rfl⟩:=ry;cases x with
  |dY=>cases rx;exact SeqAt.EqAt.str_none a t'
  |bl b=>cases rx;exact SeqAt.EqAt.str_bool a t' b
  |int b=>obtain⟨t,rfl⟩:=rx;exact SeqAt.EqAt.str_int a t' b t
  |str b=>obtain⟨t,rfl⟩:=rx;exact SeqAt.EqAt.str_str a t' b t
  |_=>exact absurd (show false=true from fx) aU
 |_=>exact absurd (show false=true from fy) aU
def GQ(x:V)(u:Value):Bool:=match u with
 | .none=>Q5 .dY x
 | .bool b=>Q5 (.bl b) x
 | .int i _=>Q5 (.int i) x
 | .str z _=>Q5 (.str z) x
 |_=>false
theorem LW{x y:V}{u:Value}(r:cQ y u)(f:uV y=true):GQ x u=Q5 y x:=by
 cases y with
 |dY=>cases r;rfl
 |bl b=>cases r;rfl
 |int i=>obtain⟨t,rfl⟩:=r;rfl
 |str z=>obtain⟨t,rfl⟩:=r;rfl
 |_=>exact absurd (show false=true from f) aU
theorem uW{x:V} :∀{xs:List V} {us:List Value},cC xs us->xs.all uV=true->us.any (GQ x)=xs.any fun y=>Q5 y x
 |_,_,.nil,_=>rfl
 |y::xs,u::us,.cons r t,f=>by
  rw[ni,bB]at f;rw[ff,ff,LW r f.1,uW t f.2]
theorem qC{A:Around}{s:Shared}{x:V}{v:Value}(rx:cQ x v)(fx:uV x=true):∀{xs:List V} {us:List Value},cC xs us->xs.all uV=true->∀u∈us,SeqAt.EqAt A s u v (GQ x u)
 |_,_,.nil,_=>fun u hu=>by cases hu
 |y::xs,u::us,.cons r t,f=>fun u' hu=>by
  rw[ni,bB]at f;rcases List.mem_cons.mp hu with rfl|hu
  ·rw[LW r f.1];exact RZ r rx f.1 fx
  ·exact qC rx fx t f.2 u' hu
def Lu(x:V)(xs:List V):Bool:=xs.any fun y=>Q5 y x
def Q6(K:PySem.W.Frag)(neg:Bool):R2:=fun x y H Q=>∃p xs,y=.ref p/\(cI K H p xs\/lD K H p xs)/\uV x=true/\xs.all uV=true/\Q (.bl (if neg then !Lu x xs else Lu x xs)) H
theorem l0:ug X (compareOp .In) (Q6 X.K false):=by
 intro pins s σ H x y v u Q I rx ry h;obtain⟨p,xs,rfl,hq,fx,fs,q⟩:=h;cases ry;rcases hq with hq|hq
 ·obtain⟨its,r,pl,hz⟩:=I.list hq;refine SeqAt.in_listAt (GQ x) pl.isList (fun w hw=>qC rx fx r fs w (by simpa using hw)) ⟨.bl _,H,I,rfl,?_⟩;rw[show its.toArray.any (GQ x)=its.any (GQ x) by simp,uW r fs];exact q
 ·obtain⟨its,r,pl,hz⟩:=I.tuple hq;refine SeqAt.in_tupleAt (GQ x) pl (fun w hw=>qC rx fx r fs w (by simpa using hw)) ⟨.bl _,H,I,rfl,?_⟩;rw[show its.toArray.any (GQ x)=its.any (GQ x) by simp,uW r fs];exact q
theorem uX:ug X (compareOp .NotIn) (Q6 X.K true):=by
 intro pins s σ H x y v u Q I rx ry h;obtain⟨p,xs,rfl,hq,fx,fs,q⟩:=h;cases ry;rcases hq with hq|hq
 ·obtain⟨its,r,pl,hz⟩:=I.list hq;refine SeqAt.notIn_listAt (GQ x) pl.isList (fun w hw=>qC rx fx r fs w (by simpa using hw)) ⟨.bl _,H,I,rfl,?_⟩;rw[show its.toArray.any (GQ x)=its.any (GQ x) by simp,uW r fs];exact q
 ·obtain⟨its,r,pl,hz⟩:=I.tuple hq;refine SeqAt.notIn_tupleAt (GQ x) pl (fun w hw=>qC rx fx r fs w (by simpa using hw)) ⟨.bl _,H,I,rfl,?_⟩;rw[show its.toArray.any (GQ x)=its.any (GQ x) by simp,uW r fs];exact q
theorem CW:lE X (.builtin "len") (fun xs H Q=>∃p ys,xs=[.ref p]/\(cI X.K H p ys\/lD X.K H p ys)/\Q (.int ys.length) H):=by
 intro pins s σ H xs us Q I r h;obtain⟨p,ys,rfl,hq,q⟩:=h;obtain⟨u,rfl,rx⟩:=vals1 r;cases rx;have hn:=GH;rcases hq with hq|hq
 ·obtain⟨its,r',pl,hz⟩:=I.list hq;have hlen:=r'.length;exact Calls.call_len_list pl.isList (by simp only[bG]<;>omega) ⟨.int ys.length,H,I.tok _,⟨s.toks+1,by rw[bG,hlen]⟩,q⟩
 ·obtain⟨its,r',pl,hz⟩:=I.tuple hq;have hlen:=r'.length;exact len_tuple pl (by simp only[bG]<;>omega) ⟨.int ys.length,H,I.tok _,⟨s.toks+1,by rw[bG,hlen]⟩,q⟩
def tyV(K:PySem.W.Frag)(T:String)(x:V)(H:Hp):Prop:=match x with
 | .str _=>T="str"
 | .int _=>T="int"
 | .ref p=>(T="list"/\∃xs,cI K H p xs)\/(T="tuple"/\∃o,K.lookup p=some o/\o.cls=.type "tuple"/\o.dict=none)\/
   (T="dict"/\((∃kvs,H p=some (.dK kvs))\/∃kvs,H p=some (.dT kvs)))\/(T="set"/\∃S n,H p=some (.set S n))
 |_=>False
theorem R0{pins:List (Addr×Obj)}{σ:St}{H:Hp}{s:Shared}{T:String}{x:V}{v:Value}(I:bJ X pins σ H s)(r:cQ x v)(ty:tyV X.K T x H):
  s.TypeIs v T/\∀a,v=.ref a->∃ob,s.heap.get? a=some ob/\ob.dict=none:=by
 cases x with
 |str z=>
  obtain⟨t,rfl⟩:=r;cases (show T="str" from ty);exact⟨typeIs_str s z t,fun _ e=>nomatch e⟩
 |int i=>
  obtain⟨t,rfl⟩:=r;cases (show T="int" from ty);exact⟨typeIs_int s i t,fun _ e=>nomatch e⟩
 |ref p=>
  cases r;rcases ty with⟨rfl,xs,hq⟩|⟨rfl,o,hk,hc,hd⟩|⟨rfl,hk⟩|⟨rfl,S,n,hk⟩
  ·obtain⟨its,_,pl,_⟩:=I.list hq;refine⟨pl.isList.typeIs,fun a e=>?_⟩;cases e;obtain⟨o,n,e,c,hd,_⟩:=pl;exact⟨o,e,hd⟩
  ·refine⟨⟨o,I.o7 p o hk,hc⟩,fun a e=>?_⟩;cases e;exact⟨o,I.o7 _ o hk,hd⟩
  ·have z:∃o,s.heap.get? p=some o/\o.ExactDict:=by
    rcases hk with⟨kvs,hk⟩|⟨kvs,hk⟩
    ·obtain⟨_,_,_,_,o,_,_,e,ex,_⟩:=I.hok p _ hk;exact⟨o,e,ex⟩
    ·obtain⟨_,_,_,_,o,_,_,e,ex,_⟩:=I.hok p _ hk;exact⟨o,e,ex⟩
   obtain⟨o,e,ex⟩:=z;refine⟨⟨o,e,ex.1⟩,fun a e2=>?_⟩;cases e2;exact⟨o,e,ex.2.1⟩
  ·obtain⟨o,_,_,_,e,ex,_⟩:=I.hok p _ hk;refine⟨⟨o,e,ex.1⟩,fun a e2=>?_⟩;cases e2;exact⟨o,e,ex.2.1⟩
 |_=>exact False.elim ty
def Sa(K:PySem.W.Frag)(T:String)(r:V->List V->Hp->VK->Prop)(to:TE)(t:TA):TE:=fun σ H Q=>to σ H fun x H1=>tyV K T x H1/\t σ H1 fun xs H2=>r x xs H2 Q
variable{o e:Expr}{es:List Expr}{to:TE}{t:TA}{name:Str}{apos cpos:Pos}{T id:String}{r:V->List V->Hp->VK->Prop}
theorem Q7(pa:PlainAttrs T)(slot:Slot T name id)(hty:typeOf (.builtin id)=pure (.type "method_descriptor"))(hm:MtR X id r)(ho:PE X o to)(ha:PA X (e::es) t)
  (hbase:attributeBase o name X.env (eval o X.env)=eval o X.env:=by rfl)
  (hfew:((backTo cpos (starEach (e::es) X.env)).all (fun x=> !x.1)&&(backToKw cpos (keywordEach [] X.env)).all (fun x=>x.1.isSome)
   &&decide ((e::es).length+([]:List Keyword).length+(if([]:List Keyword).isEmpty then 0 else 1)<30))=true:=by rfl)
  (hline:(apos.endLine==cpos.line)=true:=by rfl) (hs:starEach (e::es) X.env=(false,eval e X.env)::starEach es X.env:=by rfl) (hplain:(backTo cpos (starEach es X.env)).any (·.1)=false:=by rfl):
  PE X (.Call (.Attribute o name apos) (e::es) [] cpos) (Sa X.K T r to t):=by
 intro pins s σ H Q I h;refine wpAny_Call_method_late hbase hfew hline rfl (dI (ho pins s σ H _ I h) fun v s1 eT=>?_);obtain⟨x,H1,I1,r1,ty,q1⟩:=eT;obtain⟨h1,h2⟩:=R0 I1 r1 ty;refine⟨T,id,pa,slot,hty,h1,h2,?_⟩;have hA:=ha cpos pins s1 σ H1 _ I1 q1;rw[hs]at hA ⊢;refine fu (by show(false||(backTo cpos (starEach es X.env)).any (·.1))=false;rw[hplain]<;>rfl) (f7 ?_);exact dI hA fun us s2 ⟨vs,H2,I2,r2,q2⟩=>hm pins s2 σ H2 x vs v us Q I2 r1 r2 q2
end
def MtM(X:Cx)(id:String)(r:V->List V->Hp->VK->Prop):Prop:=
 ∀(pins:List (Addr×Obj)) (s:Shared) (σ:St) (H:Hp) (x:V) (xs:List V) (v:Value) (us:List Value) (Q:VK),bJ X pins σ H s->cQ x v->cC xs us->r x xs H Q->
  wpAny (model X.prog X.w) X.A (call (.builtin id) (v::us)) (EP X pins σ Q) X.xe s
theorem cC.one:∀{x:V} {us:List Value},cC [x] us->∃u,us=[u]/\cQ x u
 |_,_,.cons r .nil=>⟨_,rfl,r⟩
section
variable{X:Cx}{pins:List (Addr×Obj)}{σ:St}{H:Hp}{s:Shared}{l b:Addr}{xs ys zs:List V}
theorem bJ.Vq{its its':List Value}{n:Nat}{f:Array Value->Array Value}{t':Nat}(I:bJ X pins σ H s)(hH:H l=some (.lst xs))
  (e:s.heap.get? l=some {cls:=.type "list",data:=.seq its.toArray n}) (hf:f its.toArray=its'.toArray) (hv:cC ys its') (hz:ys.length<=sizeLine):
  bJ X pins σ (upd H l (.lst ys)) {s with heap:=s.heap.update l (Obj.mapSeq f),toks:=t'}:=by
 have q:=PySem.IsL.update e f;rw[hf]at q;refine I.write (x:=l) (e:=l) (by rw[hH];exact trivial) (.inl rfl) (fun b' u hb hu=>(bO s.heap (Obj.mapSeq f) (bP hb)).trans hu) ⟨_,q⟩ ?_;exact⟨hz,its',_,hv,q⟩
theorem bJ.Yv{its:List Value}{t':Nat}(I:bJ X pins σ H s)(hv:cC ys its)(hz:ys.length<=sizeLine):
  bJ X pins σ (upd H s.heap.objs.size (.lst ys)) {s with heap:=s.heap.push {cls:=.type "list",data:=.seq its.toArray},toks:=t'}:=
 I.laid (fun _ _ q=>af _ q) (aq _) ⟨hz,its,0,hv,aE _ rfl⟩
theorem bJ.fresh(I:bJ X pins σ H s):H s.heap.objs.size=none:=I.hok.fresh (aq _)
theorem bJ.LX(I:bJ X pins σ H s)(hH:H l=some (.lst xs)):xs.length<=sizeLine/\∃(its:List Value) (n:Nat),cC xs its/\xs.length=its.length/\s.heap.get? l=some {cls:=.type "list",data:=.seq its.toArray n}:=by
 obtain⟨z,its,n,r,e⟩:=I.hok l _ hH;exact⟨z,its,n,r,r.length,e⟩
theorem LY{n:Nat}(h:n<=sizeLine):Builtin.List.listTooLong n=false:=by
 unfold Builtin.List.listTooLong;exact aK (by omega)
end
section
variable{X:Cx}
def uY:V->List V->Hp->VK->Prop:=fun x vs H Q=>∃l xs y,x=.ref l/\vs=[y]/\H l=some (.lst xs)/\xs.length<sizeLine/\Q .dY (upd H l (.lst (xs++[y])))
theorem J1:MtM X "list.append" uY:=by
 intro pins s σ H x vs v us Q I rx rv h;obtain⟨l,xs,y,rfl,rfl,hH,hz,q⟩:=h;cases rx;obtain⟨u,rfl,ru⟩:=rv.one;obtain⟨z,its,n,r,hl,e⟩:=I.LX hH;refine call_meets F.slot_list_append ⟨_,e,rfl⟩ F.entry_list_append (F.args_list_append_2 _ _) (PySem.list_append l its.toArray n u (by rw[bG];omega)) ⟨e,?_⟩;refine⟨.dY,_,I.Vq (its':=its++[u]) hH e (by simp) (r.append (.cons ru .nil)) ?_,rfl,q⟩;rw[au,List.length_singleton];omega
def yy:V->List V->Hp->VK->Prop:=fun x vs H Q=>∃l b xs zs,x=.ref l/\vs=[.ref b]/\H l=some (.lst xs)/\H b=some (.lst zs)/\xs.length+zs.length<=sizeLine/\Q .dY (upd H l (.lst (xs++zs)))
theorem J2:MtM X "list.extend" yy:=by
 intro pins s σ H x vs v us Q I rx rv h;obtain⟨l,b,xs,zs,rfl,rfl,hH,hB,hz,q⟩:=h;cases rx;obtain⟨u,rfl,ru⟩:=rv.one;cases ru;obtain⟨z,its,n,r,hl,e⟩:=I.LX hH;obtain⟨z2,its2,n2,r2,hl2,e2⟩:=I.LX hB;have hsz:its.toArray.size+its2.toArray.size<=sizeLine:=by rw[bG,bG];omega
 have Vr:¬(!its.toArray.isEmpty&&Builtin.List.listTooLong (its.toArray.size+its2.toArray.size))=true:=by
  rw[LY hsz,Bool.and_false];exact aU
 refine call_meets F.slot_list_extend ⟨_,e,rfl⟩ F.entry_list_extend (F.args_list_extend_2 _ _)
  (AutoSeq1.list_extend_list_list_0 l its.toArray n b its2.toArray n2 Vr (by rw[bG];omega) (by omega)) ⟨e,e2,?_⟩
 refine⟨.dY,_,I.Vq (its':=its++its2) hH e (by simp) (r.append r2) ?_,rfl,q⟩;rw[au];omega
def Yw:R2:=fun x y H Q=>∃l b xs zs,x=.ref l/\y=.ref b/\H l=some (.lst xs)/\H b=some (.lst zs)/\xs.length+zs.length<=sizeLine/\∀p,H p=none->Q (.ref p) (upd H p (.lst (xs++zs)))
theorem jY:ug X (binaryOp .Add) Yw:=by
 intro pins s σ H x y v u Q I rx ry h;obtain⟨l,b,xs,zs,rfl,rfl,hH,hB,hz,q⟩:=h;cases rx;cases ry;obtain⟨z,its,n,r,hl,e⟩:=I.LX hH;obtain⟨z2,its2,n2,r2,hl2,e2⟩:=I.LX hB;refine PySem.P.add_list e e2 ?_ (by rw[bG,bG];omega);have ea:its.toArray++its2.toArray=(its++its2).toArray:=by simp
 rw[ea];exact⟨.ref _,_,I.Yv (t':=s.toks) (r.append r2) (by rw[au];omega),rfl,q _ I.fresh⟩
end
theorem cC.ints:∀{ns:List Int} {us:List Value},cC (ns.map V.int) us->IntsAre us ns
 |[],us,h=>by
  rw[qj]at h;cases h;exact IntsAre.nil
 |n::ns,us,h=>by
  rw[aV]at h;cases h with
  |cons r t=>
   obtain⟨k,rfl⟩:=r;exact IntsAre.cons n k (cC.ints t)
theorem pB:∀{us:List Value} {ns:List Int},IntsAre us ns->cC (ns.map V.int) us
 |_,_,.nil=>by rw[qj];exact Paired.nil
 |_,_,.cons n t h=>by rw[aV];exact Paired.cons (show cQ (V.int n) (Value.int n t)from⟨t,rfl⟩) (pB h)
theorem cC.Yx:∀{bs:List Bool} {us:List Value},cC (bs.map V.bl) us->us=bs.map Value.bool
 |[],us,h=>by
  rw[qj]at h;cases h;rfl
 |b::bs,us,h=>by
  rw[aV]at h;cases h with
  |cons r t=>
   cases r;rw[cC.Yx t,aV]
theorem cC.zh{a:Addr}{us:List Value}(r:cC [V.ref a] us):us=[Value.ref a]:=by
 cases r with
 |cons r t=>
  cases t;cases r;rfl
section
variable{prog:Program}{w:World}{A:Around}{E:Value->Shared->Prop}{s:Shared}{l:Addr}{its:List Value}{ns:List Int}{Q:Value->Shared->Prop}
theorem O1(hh:A.handled=none)(hl:s.heap.IsList l its.toArray)(hi:IntsAre its ns)
  (h:∀h' tk t',(∀b o,s.heap.get? b=some o->h'.get? b=some o)->Q (.int ns.sum t') {s with heap:=h',toks:=tk}):wpAny (model prog w) A (call (.builtin "sum") [.ref l]) Q E s:=by
 obtain⟨xs,e⟩:=hi.allInts.items;have hn:numsOf (intItems xs).toList=ns:=by rw[<- e];exact hi.numsOf
 rw[nums_intItems]at hn;rw[e]at hl;refine PySem.sum_intListG hh hl fun h' tk t' hk=>?_;have:=h h' tk t' hk;rw[preSum_eq,bN (by simp),hn];exact this
end
section
variable{X:Cx}
def Yy(K:PySem.W.Frag):List V->Hp->VK->Prop:=fun vs H Q=>∃(a:Addr) (ns:List Int),vs=[V.ref a]/\cI K H a (ns.map V.int)/\Q (.int ns.sum) H
theorem Sb(hc:X.calm=true):lE X (.builtin "sum") (Yy X.K):=by
 intro pins s σ H vs us Q I r h;obtain⟨a,ns,rfl,hs,q⟩:=h;obtain⟨its,rv,hl,_⟩:=I.list hs;rw[cC.zh r];exact O1 (I.ok.hd hc) hl.isList rv.ints fun h' tk t' hk=>⟨.int _,H,I.kept hk,⟨_,rfl⟩,q⟩
end
theorem Ew{prog:Program}{w:World}{A:Around}{E:Value->Shared->Prop}{s:Shared}{l:Addr}{items:Array Value}{Q:Value->Shared->Prop}(hl:s.heap.IsList l items)
  (h:∀s₂:Shared,s₂= {s with heap:=s.heap.push {cls:=.type "list_iterator",data:=.fields #[.ref l,.int 0 0]}} ->
   (s₂.heap.IsListIter s.heap.objs.size l 0/\s₂.heap.IsList l items)->l≠s.heap.objs.size->Q (.ref s.heap.objs.size) s₂):wpAny (model prog w) A (pyIter (.ref l)) Q E s:=by
 have hlt:l<s.heap.objs.size:=by obtain⟨_,e,_⟩:=hl;exact aF e
 exact kT hl (h _ rfl ⟨⟨_,aE _ rfl,rfl,rfl⟩,hl.push _⟩ (aT hlt))
theorem xC{prog:Program}{w:World}{A:Around}{bs:List Bool}{its:List Value}(e:its=bs.map Value.bool):
  TruthOf prog w A (fun i v=>its.toArray[i]? =some v) (fun i=>bs.getD i false):=fun i v s Q E hv hq=>by
 have hv':its[i]? =some v:=by simpa using hv
 rw[e,bf]at hv';obtain⟨b,hb,rfl⟩:=Option.map_eq_some_iff.mp hv';have hg:bs.getD i false=b:=by rw[kZ,hb]<;>rfl
 have hq':Q (bs.getD i false) s:=hq;rw[hg]at hq';exact eF hq'
theorem CF:∀bs:List Bool,(List.range bs.length).any (fun i=>bs.getD i false)=bs.any id
 |[]=>rfl
 |b::bs=>by
  rw[az,List.range_succ_eq_map,ff,List.any_map,ff, <- CF bs]
  all_goals rfl
theorem CG:∀bs:List Bool,(List.range bs.length).all (fun i=>bs.getD i false)=bs.all id
 |[]=>rfl
 |b::bs=>by
  rw[az,List.range_succ_eq_map,ni,List.all_map,ni, <- CG bs]
  all_goals rfl
section
variable{X:Cx}
def Yz(K:PySem.W.Frag):List V->Hp->VK->Prop:=fun vs H Q=>∃(a:Addr) (bs:List Bool),vs=[V.ref a]/\cI K H a (bs.map V.bl)/\Q (.bl (bs.any id)) H
def Vs(K:PySem.W.Frag):List V->Hp->VK->Prop:=fun vs H Q=>∃(a:Addr) (bs:List Bool),vs=[V.ref a]/\cI K H a (bs.map V.bl)/\Q (.bl (bs.all id)) H
theorem LZ(hc:X.calm=true):lE X (.builtin "any") (Yz X.K):=by
 intro pins s σ H vs us Q I r h;obtain⟨a,bs,rfl,hs,q⟩:=h;obtain⟨its,rv,hl,_⟩:=I.list hs;rw[cC.zh r];have hb:=rv.Yx;refine call_any_walk (Ew hl.isList fun s₂ e2 st hne=>?_);subst e2;refine⟨_,_,_,_,_,_,_,rfl,Walks.list (A:=X.A.in1) (I.ok.hd hc) _ a hne its.toArray,st,xC hb,fun h' tk hk=>?_⟩;refine⟨.bl _,H,I.kept fun b o eo=>hk b o (fun hmem=>?_) (af _ eo),?_,q⟩
 ·rcases List.mem_cons.mp hmem with e1|hmem
  ·exact absurd (e1 ▸ aF eo) (cV _)
  ·cases hmem
 ·show Value.bool _=Value.bool _;rw[<- CF,hb,bG,ai]
theorem L5(hc:X.calm=true):lE X (.builtin "all") (Vs X.K):=by
 intro pins s σ H vs us Q I r h;obtain⟨a,bs,rfl,hs,q⟩:=h;obtain⟨its,rv,hl,_⟩:=I.list hs;rw[cC.zh r];have hb:=rv.Yx;refine call_all_walk (Ew hl.isList fun s₂ e2 st hne=>?_);subst e2;refine⟨_,_,_,_,_,_,_,rfl,Walks.list (A:=X.A.in1) (I.ok.hd hc) _ a hne its.toArray,st,xC hb,fun h' tk hk=>?_⟩;refine⟨.bl _,H,I.kept fun b o eo=>hk b o (fun hmem=>?_) (af _ eo),?_,q⟩
 ·rcases List.mem_cons.mp hmem with e1|hmem
  ·exact absurd (e1 ▸ aF eo) (cV _)
  ·cases hmem
 ·show Value.bool _=Value.bool _;rw[<- CG,hb,bG,ai]
end
mutual
inductive Dp (K:PySem.W.Frag) (H:Hp):V->PyData->Prop
 |dY:Dp K H .dY .none
 |bl (b:Bool):Dp K H (.bl b) (.bool b)
 |int (i:Int):Dp K H (.int i) (.int i)
 |str (x:Str):Dp K H (.str x) (.str x)
 |lst {a:Addr} {xs:List V} {ds:List PyData} :cI K H a xs->zj K H xs ds->Dp K H (.ref a) (.list ds)
 |tup {a:Addr} {xs:List V} {ds:List PyData} :lD K H a xs->zj K H xs ds->Dp K H (.ref a) (.tuple ds)
inductive zj (K:PySem.W.Frag) (H:Hp):List V->List PyData->Prop
 |nil:zj K H [] []
 |cons {v:V} {vs:List V} {d:PyData} {ds:List PyData} :Dp K H v d->zj K H vs ds->zj K H (v::vs) (d::ds)
end
section
variable{X:Cx}{pins:List (Addr×Obj)}{σ:St}{H:Hp}{s:Shared}
mutual
theorem Dp.reads(I:bJ X pins σ H s):∀(d:PyData) (v:V) (u:Value),Dp X.K H v d->cQ v u->∃as,Reads s.heap u d as
 | .none,_,_,h,r=>by
  cases h;cases r;exact⟨_,Reads.none⟩
 | .bool b,_,_,h,r=>by
  cases h;cases r;exact⟨_,Reads.bool b⟩
 | .int i,_,_,h,r=>by
  cases h;obtain⟨t,rfl⟩:=r;exact⟨_,Reads.int i t⟩
 | .str x,_,_,h,r=>by
  cases h;obtain⟨t,rfl⟩:=r;exact⟨_,Reads.str x t⟩
 | .list ds,_,_,h,r=>by
  cases h with
  |lst hs ha=>
   cases r;obtain⟨its,rv,⟨o,n,ho,hc,_,hd⟩,_⟩:=I.list hs;obtain⟨as,hr⟩:=Dp.readsAll I ds _ its ha rv;exact⟨_,Reads.list ho hc hd hr⟩
 | .tuple ds,_,_,h,r=>by
  cases h with
  |tup hs ha=>
   cases r;obtain⟨its,rv,⟨o,ho,hc,n,hd⟩,_⟩:=I.tuple hs;obtain⟨as,hr⟩:=Dp.readsAll I ds _ its ha rv;exact⟨_,Reads.tuple ho hc hd hr⟩
 | .dict _,_,_,h,_=>by cases h
theorem Dp.readsAll(I:bJ X pins σ H s):∀(ds:List PyData) (vs:List V) (us:List Value),zj X.K H vs ds->cC vs us->∃as,ReadsAll s.heap us ds as
 |[],_,_,h,r=>by
  cases h;cases r;exact⟨_,ReadsAll.nil⟩
 |d::ds,_,_,h,r=>by
  cases h with
  |cons h1 h2=>
   cases r with
   |cons r1 r2=>
    obtain⟨as,q1⟩:=Dp.reads I d _ _ h1 r1;obtain⟨bs,q2⟩:=Dp.readsAll I ds _ _ h2 r2;exact⟨_,ReadsAll.cons q1 q2⟩
end
end
section
variable{X:Cx}
def YA(K:PySem.W.Frag):R2:=fun x y H Q=>∃d e,Dp K H x d/\Dp K H y e/\SeqAt.shaped d=true/\SeqAt.shaped e=true/\Q (.bl (PyData.eqv d e)) H
def YB(K:PySem.W.Frag):R2:=fun x y H Q=>∃d e,Dp K H x d/\Dp K H y e/\SeqAt.shaped d=true/\SeqAt.shaped e=true/\Q (.bl (!PyData.eqv d e)) H
theorem Sd(hu:X.A.units+64<cLine):ug X (compareOp .Eq) (YA X.K):=by
 intro pins s σ H x y v u Q I rx ry h;obtain⟨d,e,hd,he,sd,se,q⟩:=h;obtain⟨as,r1⟩:=Dp.reads I d x v hd rx;obtain⟨bs,r2⟩:=Dp.reads I e y u he ry;exact SeqAt.compareEq_shaped r1 r2 sd se hu ⟨.bl _,H,I,rfl,q⟩
theorem Se(hu:X.A.units+64<cLine):ug X (compareOp .NotEq) (YB X.K):=by
 intro pins s σ H x y v u Q I rx ry h;obtain⟨d,e,hd,he,sd,se,q⟩:=h;obtain⟨as,r1⟩:=Dp.reads I d x v hd rx;obtain⟨bs,r2⟩:=Dp.reads I e y u he ry;exact SeqAt.compareNe_shaped r1 r2 sd se hu ⟨.bl _,H,I,rfl,q⟩
end
abbrev L6(h:Heap)(c:Addr)(v:Option Value):Prop:=h.IsCell c v
def YC(scope sc:Scope):Scope:=
 {scope with names:=scope.names.map fun(n,k)=>if(k==.free&&sc.kind==.function&&sc.names.lookup n==some .cell)then(n,.cell)else(n,k)}
def eO(cells:List (Str×Addr)):List (Str×NameKind)->List (Str×Addr)->List (Str×Addr)
 |[],acc=>acc
 |(n,k)::r,acc=>if k==.free then eO cells r ((n,(cells.lookup n).getD 0)::acc)else eO cells r acc
theorem uZ(env:Env)(f:Str×NameKind->List (Str×Addr)->Sem (ForInStep (List (Str×Addr))))
  (hf:∀n k c,f (n,k) c=if k==.free then(do let a <- cellOf env n;pure (.yield ((n,a)::c)))else pure (.yield c)):
  ∀(names:List (Str×NameKind)) (acc:List (Str×Addr)),(∀y∈names,y.2=.free->∃c,env.cells.lookup y.1=some c)->forIn names acc f=pure (eO env.cells names acc)
 |[],acc,_=>by rw[OD];rfl
 |(n,k)::r,acc,h=>by
  rw[List.forIn_cons,hf];have ih:=fun acc=>uZ env f hf r acc fun y hy=>h y (aG _ hy);unfold eO;by_cases hk:(k==NameKind.free)=true
  ·rw[aB hk,aB hk];obtain⟨c,hc⟩:=h (n,k) aL (by simpa using hk);have e:cellOf env n=pure c:=by unfold cellOf;rw[hc]
   rw[e];have e2:(env.cells.lookup n).getD 0=c:=by rw[hc];rfl
   rw[e2];exact ih _
  ·rw[ao hk,ao hk];exact ih _
theorem GS{scope:Scope}{env:Env}(h:∀y∈scope.names,y.2=.free->∃c,env.cells.lookup y.1=some c):closureFor scope env=pure (eO env.cells scope.names []):=by
 simp only[closureFor];rw[uZ env _ (fun n k c=>rfl) scope.names [] h];rfl
theorem uJ{α:Type} :∀{l:List (Str×α)} {n:Str} {c:α},(n,c)∈l->∃c',l.lookup n=some c'
 |(k,v)::r,n,c,h=>by
  rw[ju];cases hb:n==k with
  |true=>exact⟨_,rfl⟩
  |false=>
   rcases List.mem_cons.mp h with e|h
   ·cases e;simp at hb
   ·exact uJ h
theorem nB{cells:List (Str×Addr)} :∀{names:List (Str×NameKind)} {acc:List (Str×Addr)} {n:Str} {c:Addr},(n,c)∈eO cells names acc->(n,c)∈acc\/((n,.free)∈names/\c=(cells.lookup n).getD 0)
 |[],_,_,_,h=>.inl h
 |(m,k)::r,acc,n,c,h=>by
  unfold eO at h;split at h
  ·rename_i hk;have hk:k=.free:=by simpa using hk
   rcases nB h with h|⟨h1,h2⟩
   ·rcases List.mem_cons.mp h with e|h
    ·cases e;exact .inr ⟨hk ▸ aL,rfl⟩
    ·exact .inl h
   ·exact .inr ⟨aG _ h1,h2⟩
  ·rcases nB h with h|⟨h1,h2⟩
   ·exact .inl h
   ·exact .inr ⟨aG _ h1,h2⟩
theorem qD{cells:List (Str×Addr)} :∀{names:List (Str×NameKind)} {acc:List (Str×Addr)} {p:Str×Addr},p∈acc->p∈eO cells names acc
 |[],_,_,h=>h
 |(m,k)::r,acc,p,h=>by
  unfold eO;split
  ·exact qD (aG _ h)
  ·exact qD h
theorem qE{cells:List (Str×Addr)} :∀{names:List (Str×NameKind)} {acc:List (Str×Addr)} {n:Str},(n,.free)∈names->(n,(cells.lookup n).getD 0)∈eO cells names acc
 |(m,k)::r,acc,n,h=>by
  unfold eO;rcases List.mem_cons.mp h with e|h
  ·cases e;exact qD aL
  ·split
   ·exact qE h
   ·exact qE h
theorem oA:∀{names:List (Str×NameKind)} {h:Heap} {acc:List (Str×Addr)} {x:Str} {c:Addr},(x,c)∈cellsFrom h.objs.size names acc->
  (x,c)∈acc\/((x,.cell)∈names/\h.objs.size<=c/\L6 (pushCells h names) c none)
 |[],_,_,_,_,h=>.inl h
 |(n,k)::r,h,acc,x,c,hm=>by
  unfold cellsFrom at hm;unfold pushCells;split at hm
  ·rename_i hk;rw[aB hk];have hk:k=.cell:=by simpa using hk
   rw[<- bT h {cls:=.type "cell",data:=.cell none}]at hm;rcases oA hm with hm|⟨h1,h2,h3⟩
   ·rcases List.mem_cons.mp hm with e|hm
    ·cases e;exact .inr ⟨hk ▸ aL,aq _,_,Gn r _ _ _ (aE _ rfl),rfl⟩
    ·exact .inl hm
   ·rw[bT]at h2;exact .inr ⟨aG _ h1,wz h2,h3⟩
  ·rename_i hk;rw[ao hk];rcases oA hm with hm|⟨h1,h2,h3⟩
   ·exact .inl hm
   ·exact .inr ⟨aG _ h1,h2,h3⟩
theorem r9:∀{names:List (Str×NameKind)} {n:Nat} {acc:List (Str×Addr)} {p:Str×Addr},p∈acc->p∈cellsFrom n names acc
 |[],_,_,_,h=>h
 |(m,k)::r,n,acc,p,h=>by
  unfold cellsFrom;split
  ·exact r9 (aG _ h)
  ·exact r9 h
theorem wH:∀{names:List (Str×NameKind)} {n:Nat} {acc:List (Str×Addr)} {x:Str},(x,.cell)∈names->∃c,(x,c)∈cellsFrom n names acc
 |(m,k)::r,n,acc,x,h=>by
  unfold cellsFrom;rcases List.mem_cons.mp h with e|h
  ·cases e;exact⟨n,r9 aL⟩
  ·split
   ·exact wH h
   ·exact wH h
theorem wI:∀{names:List (Str×NameKind)} {h:Heap} {acc:List (Str×Addr)} {x y:Str} {c:Addr},(∀p∈acc,p.2<h.objs.size)->(∀x y c,(x,c)∈acc->(y,c)∈acc->x=y)->
  (x,c)∈cellsFrom h.objs.size names acc->(y,c)∈cellsFrom h.objs.size names acc->x=y
 |[],_,_,_,_,_,_,hi,h1,h2=>hi _ _ _ h1 h2
 |(n,k)::r,h,acc,x,y,c,hl,hi,h1,h2=>by
  unfold cellsFrom at h1 h2;split at h1
  ·rename_i hk;rw[aB hk]at h2;rw[<- bT h {cls:=.type "cell",data:=.cell none}]at h1 h2;refine wI (h:=h.push _) (fun p hp=>?_) (fun x y c a b=>?_) h1 h2
   ·rw[bT];rcases List.mem_cons.mp hp with rfl|hp
    ·exact fC _
    ·exact fS (hl p hp)
   ·rcases List.mem_cons.mp a with e|a<;>rcases List.mem_cons.mp b with e'|b
    ·cases e;cases e';rfl
    ·cases e;exact absurd (hl _ b) (cV _)
    ·cases e';exact absurd (hl _ a) (cV _)
    ·exact hi _ _ _ a b
  ·rename_i hk;rw[ao hk]at h2;exact wI hl hi h1 h2
theorem Ex{M:Model}{A:Around}{E:Value->Shared->Prop}{s:Shared}{scope:Scope}{globals:Addr}{closure:List (Str×Addr)}{qual:Str}{func:Option Addr}{code:Value}{around:Env}{builtins:Addr}{Q:Env->Shared->Prop}
  (h:Q (newEnv scope s.heap.objs.size globals (cellsFrom (s.heap.objs.size+1) scope.names closure) qual func code (some around) builtins)
   {s with heap:=pushCells (s.heap.push {cls:=.type "dict",data:=.dict #[]}) scope.names}):
  wpAny M A (newFunctionEnv scope globals closure [] qual func code (some around) builtins) Q E s:=by
 simp only[newFunctionEnv,Option.isSome_some,lu];refine aa (wpAny_alloc ?_);refine aa (wpAny_layCells _ (fun n k c=>rfl) scope.names closure _ _ ?_);rw[show({s with heap:=s.heap.push {cls:=.type "dict",data:=.dict #[]}} :Shared).heap.objs.size=s.heap.objs.size+1 from bT ..];rw[OD];exact aa (ak (ak h))
theorem qF{sc:Scope} :∀{names:List (Str×NameKind)} {x:Str} {k:NameKind},
  (names.map fun(n,k)=>if(k==NameKind.free&&sc.kind==.function&&sc.names.lookup n==some .cell)then(n,NameKind.cell)else(n,k)).lookup x=some k->
  ∃k',names.lookup x=some k'/\(k=k'\/(k'=.free/\k=.cell))
 |[],_,_,h=>by simp at h
 |(n,k₀)::r,x,k,h=>by
  have ih:= @qF sc r x k;have h':List.lookup x ((if(k₀==NameKind.free&&sc.kind==.function&&sc.names.lookup n==some .cell)=true then(n,NameKind.cell)else(n,k₀))::(r.map _))=some k:=h;cases hx:x==n with
  |true=>
   simp only[ju,hx];by_cases hc:(k₀==NameKind.free&&sc.kind==.function&&sc.names.lookup n==some .cell)=true
   ·rw[aB hc]at h';simp only[ju,hx]at h';cases h';simp only[bB,Lp]at hc;exact⟨k₀,rfl,.inr ⟨hc.1.1,rfl⟩⟩
   ·rw[ao hc]at h';simp only[ju,hx]at h';cases h';exact⟨_,rfl,.inl rfl⟩
  |false=>
   simp only[ju,hx];by_cases hc:(k₀==NameKind.free&&sc.kind==.function&&sc.names.lookup n==some .cell)=true
   ·rw[aB hc]at h';simp only[ju,hx]at h';exact ih h'
   ·rw[ao hc]at h';simp only[ju,hx]at h';exact ih h'
structure Ey (N:List Str) (sc scope:Scope) (own:List (Str×Nat)):Prop where
 kind:scope.kind=.function
 uniq:∀y∈scope.names,scope.names.lookup y.1=some y.2
 ix:∀p∈own,N[p.2]? =some p.1
 free:∀y∈scope.names,y.2=.free->sc.names.lookup y.1=some .cell\/sc.names.lookup y.1=some .free
 own:∀y∈scope.names,y.2=.local\/y.2=.cell->y.1∈own.map (·.1)\/y.1∉N
def wipe(σ:St):List Nat->St
 |[]=>σ
 |v::vs=>(wipe σ vs).set v none
theorem qG(σ:St):∀vs:List Nat,(wipe σ vs).length=σ.length
 |[]=>rfl
 |v::vs=>by unfold wipe;rw[List.length_set,qG σ vs]
theorem wJ{σ:St}{i:Nat}{x:V} :∀{vs:List Nat},(wipe σ vs)[i]? =some (some x)->σ[i]? =some (some x)/\i∉vs
 |[],h=>⟨h,by simp⟩
 |v::vs,h=>by
  unfold wipe at h;by_cases hi:v=i
  ·subst hi;by_cases hv:v<(wipe σ vs).length
   ·rw[jw hv]at h;cases h
   ·rw[ql (by simpa using hv)]at h;cases h
  ·rw[kY hi]at h;obtain⟨h1,h2⟩:=wJ h;exact⟨h1,by simp only[iL,not_or];exact⟨fun e=>hi e.symm,h2⟩⟩
abbrev Cx.CY(X:Cx)(s:Shared)(H:Hp)(scope:Scope)(cenv:Env)(fp:List Addr):Cx:={X with Bb:=s,RH:=H,env:=cenv,outer:=X.stack,ex:=fp,fn:=fun x=>scope.names.lookup x==some .cell,pn:=[],xe:=fun _ _=>False}
section
variable{X:Cx}{pins:List (Addr×Obj)}{σ:St}{H:Hp}{s:Shared}
theorem Ez{scope:Scope}{own:List (Str×Nat)}{fp:List Addr}(I:bJ X pins σ H s)(ok:Ey X.N X.env.scope scope own)(hN:X.N.Nodup)(hfp:∀b∈fp,yh X pins H b/\b<s.heap.objs.size):
  bJ (X.CY s H scope (compEnvC scope (cellsFrom (s.heap.objs.size+1) scope.names (eO X.env.cells scope.names [])) s.heap.objs.size X.env) fp) [] (wipe σ (own.map (·.2))) H {s with heap:=pushCells (s.heap.push {cls:=.type "dict",data:=.dict #[]}) scope.names}:=by
 have hfree:∀y∈scope.names,y.2=.free->∃c,X.env.cells.lookup y.1=some c:=fun y hy e=>by
  rcases ok.free y hy e with k|k
  ·exact I.ok.has _ (.inl k)
  ·exact I.ok.has _ (.inr k)
 generalize EA:compEnvC scope (cellsFrom (s.heap.objs.size+1) scope.names (eO X.env.cells scope.names [])) s.heap.objs.size X.env=cenv;have kp:∀b o,s.heap.get? b=some o->(pushCells (s.heap.push {cls:=.type "dict",data:=.dict #[]}) scope.names).get? b=some o:=fun b o e=>Gn _ _ _ _ (af _ e);have hL:cenv.locals=s.heap.objs.size:=by rw[<- EA];rfl
 have hcl:cenv.cells=cellsFrom (s.heap.objs.size+1) scope.names (eO X.env.cells scope.names []):=by rw[<- EA];rfl
 have hsc:cenv.scope=YC scope X.env.scope:=by rw[<- EA];rfl
 rw[<- bT s.heap {cls:=.type "dict",data:=.dict #[]}]at hcl;have cm:∀{y c},(y,c)∈eO X.env.cells scope.names []->X.env.cells.lookup y=some c/\c<s.heap.objs.size:=fun{y c} hm=>by
  rcases nB hm with hm|⟨h1,rfl⟩
  ·cases hm
  ·obtain⟨c,hc⟩:=hfree _ h1 rfl;rw[hc];obtain⟨w,z⟩:=I.cell _ _ hc;exact⟨rfl,z.lt⟩
 have mem:∀{y c},cenv.cells.lookup y=some c->(X.env.cells.lookup y=some c/\c<s.heap.objs.size)\/(s.heap.objs.size+1<=c/\L6 (pushCells (s.heap.push {cls:=.type "dict",data:=.dict #[]}) scope.names) c none):=fun{y c} e=>by
  rw[hcl]at e;rcases oA (bR e)with hm|⟨_,h2,h3⟩
  ·exact .inl (cm hm)
  ·rw[bT]at h2;exact .inr ⟨h2,h3⟩
 have look:∀{y},scope.names.lookup y=some .free->∃c,cenv.cells.lookup y=some c/\X.env.cells.lookup y=some c:=fun{y} hl=>by
  have hy:(y,NameKind.free)∈scope.names:=bR hl;obtain⟨c',e'⟩:=uJ (r9 (names:=scope.names) (n:=(s.heap.push {cls:=.type "dict",data:=.dict #[]}).objs.size) (qE (cells:=X.env.cells) (acc:=[]) hy));rw[<- hcl]at e';refine⟨c',e',?_⟩;rw[hcl]at e';rcases oA (bR e')with hm|⟨h1,_,_⟩
  ·exact(cm hm).1
  ·have:=ok.uniq _ h1;rw[hl]at this;cases this
 have okB:(X.CY s H scope cenv fp).Ok:=by
  refine⟨I.ok.mod,by show cenv.scope.kind=_;rw[hsc];exact ok.kind,by show cenv.globals=_;rw[<- EA];exact I.ok.glob,by show cenv.builtins=_;rw[<- EA];exact I.ok.blt,by show s.heap.objs.size<=cenv.locals;rw[hL];exact aq _,
   fun y z c e1 e2=>?_,fun y hy=>?_,fun y c z e=>?_,I.ok.hd,I.ok.frames,.inl rfl,fun b hb=>⟨?_,fun y c e z=>?_⟩,I.bs,aP I.ok.LD I.sz,fun b o e hb=>?_,fun b hb z=>?_,I.stack,I.CN⟩
  ·have e1:cenv.cells.lookup y=some c:=e1;have e2:cenv.cells.lookup z=some c:=e2;rw[hcl]at e1 e2;refine wI (fun p hp=>?_) (fun y z c a b=>I.ok.inj y z c (cm a).1 (cm b).1) (bR e1) (bR e2);rw[bT];exact fS (cm (y:=p.1) (c:=p.2) hp).2
  ·show ∃c,cenv.cells.lookup y=some c;have key:∀k,cenv.kindOf y=some k->(k=.cell\/k=.free)->∃c,cenv.cells.lookup y=some c:=fun k hk hk'=>by
    unfold Env.kindOf at hk;rw[hsc]at hk;obtain⟨k',e,r⟩:=qF hk;have:k'=.cell\/k'=.free:=by
     rcases r with rfl|⟨rfl,_⟩
     ·exact hk'
     ·exact .inr rfl
    rcases this with rfl|rfl
    ·obtain⟨c,hm⟩:=wH (n:=(s.heap.push {cls:=.type "dict",data:=.dict #[]}).objs.size) (acc:=eO X.env.cells scope.names []) (bR e);obtain⟨c',e'⟩:=uJ hm;exact⟨c',by rw[hcl];exact e'⟩
    ·obtain⟨c,h1,_⟩:=look e;exact⟨c,h1⟩
   rcases hy with hy|hy
   ·exact key _ hy (.inl rfl)
   ·exact key _ hy (.inr rfl)
  ·have z:(scope.names.lookup y==some NameKind.cell)=true:=z;have z:scope.names.lookup y=some .cell:=by simpa using z
   have e:cenv.cells.lookup y=some c:=e;rw[hcl]at e;rcases oA (bR e)with hm|⟨_,h2,_⟩
   ·rcases nB hm with hm|⟨h1,_⟩
    ·cases hm
    ·have q:=ok.uniq _ h1;rw[z]at q;cases q
   ·rw[bT]at h2;exact wz h2
  ·show b≠cenv.locals;rw[hL];exact aT (hfp b hb).2
  ·have e:cenv.cells.lookup y=some c:=e;rcases mem e with⟨h1,_⟩|⟨h1,_⟩
   ·exact(hfp b hb).1.2.2.2.2.1 y c h1 z
   ·have h2:s.heap.objs.size+1<=b:=by rw[<- z];exact h1
    exact absurd (br (hfp b hb).2 (wz h2)) (cV _)
  ·rcases (hfp b hb).1.2.2.2.1 with z|z
   ·exact I.ok.GA b o e z
   ·exact absurd (br (aF e) (aP I.ok.LD z)) (cV _)
  ·rcases List.mem_cons.mp (I.CM b z)with z|z
   ·exact(hfp b hb).1.2.1 z
   ·exact(hfp b hb).1.2.2.1 z
 refine⟨okB,rfl,I.bare,Un.kept kp,⟨fun _=>none,?_,fun i y av e1 e2 e3=>?_⟩,fun y c e=>?_,?_,fun y c e=>?_,fun p hp=>?_,I.hok.kept kp,by rw[qG];exact I.len⟩
 ·show Heap.Ns _ cenv.locals _;rw[hL];exact Heap.Ns.keeps (Heap.Ns.new ..) fun b o e=>Gn _ _ _ _ e
 ·obtain⟨e2,hne⟩:=wJ e2;have hfr:scope.names.lookup y=some .free/\(cenv.kindOf y=some .cell\/cenv.kindOf y=some .free):=by
   have key:∀k,cenv.scope.names.lookup y=some k->k=.local\/k=.cell\/k=.free->scope.names.lookup y=some .free/\(cenv.kindOf y=some .cell\/cenv.kindOf y=some .free):=fun k hk hk'=>by
    have hk0:=hk;rw[hsc]at hk;obtain⟨k',e,r⟩:=qF hk;have no:¬(k'=.local\/k'=.cell):=fun hh=>by
     rcases ok.own _ (bR e) hh with e'|e'
     ·obtain⟨p,hp,hpy⟩:=List.mem_map.mp e';have e3:=ok.ix p hp;have:p.1=y:=hpy;rw[this]at e3;exact hne (List.mem_map.mpr ⟨p,hp,uQ hN e3 e1⟩)
     ·exact e' (bW e1)
    rcases r with rfl|⟨rfl,rfl⟩
    ·rcases hk' with rfl|rfl|rfl
     ·exact absurd (.inl rfl) no
     ·exact absurd (.inr rfl) no
     ·exact⟨e,.inr hk0⟩
    ·exact⟨e,.inl hk0⟩
   have e3:UI cenv.scope y:=e3;rcases e3 with e3|e3|e3
   ·exact key _ e3 (.inl rfl)
   ·exact key _ e3 (.inr (.inl rfl))
   ·exact key _ e3 (.inr (.inr rfl))
  obtain⟨m,hn,hl⟩:=I.loc;have YD:UI X.env.scope y:=(ok.free _ (bR hfr.1) rfl).elim (fun k=>.inr (.inl k)) (fun k=>.inr (.inr k));obtain⟨w,r,q⟩:=hl i y av e1 e2 YD;refine⟨w,r,.inr ⟨hfr.2,?_⟩⟩;obtain⟨c,h1,h2⟩:=look hfr.1;rcases q with⟨k,_⟩|⟨_,c',e',z⟩
  ·have k:X.env.scope.names.lookup y=some .local:=k;rcases ok.free _ (bR hfr.1) rfl with k'|k'<;>rw[show X.env.scope.names.lookup y=_ from k']at k<;>cases k
  ·rw[h2]at e';cases e';exact⟨c,h1,z.keeps kp⟩
 ·have e:cenv.cells.lookup y=some c:=e;rcases mem e with⟨h1,_⟩|⟨_,z⟩
  ·obtain⟨w,z⟩:=I.cell y c h1;exact⟨w,z.keeps kp⟩
  ·exact⟨_,z⟩
 ·show H cenv.locals=none;rw[hL];exact I.hok.fresh (aq _)
 ·have e:cenv.cells.lookup y=some c:=e;rcases mem e with⟨h1,_⟩|⟨h1,_⟩
  ·exact I.jh y c h1
  ·exact I.hok.fresh (wz h1)
 ·exact absurd (show p∈([]:List (Addr×Obj))++[]from hp) (by simp)
theorem Sf{E:Value->Shared->Prop}{D:Addr}{xs:List V}{y:V}{v:Value}{Q:Value->Shared->Prop}(I:bJ X pins σ H s)(hD:H D=some (.lst xs))(hz:xs.length<sizeLine)(r:cQ y v)
  (h:∀s',bJ X pins σ (upd H D (.lst (xs++[y]))) s'->Q .none s'):wpAny (model X.prog X.w) X.A (call (.builtin "list.append") [.ref D,v]) Q E s:=by
 obtain⟨hz',its,n,ri,e⟩:=I.hok D _ hD;have hl:=ri.length;refine append_at (hsz:=by rw[bG];omega) e fun h' sb ho'=>?_;refine h {s with heap:=h'} (I.write (t':=s.toks) (by rw[hD];trivial) (.inl rfl) (fun b u hb q=>(sb.2 b hb).trans q) ⟨_,ho'⟩ ⟨by rw[au];exact hz,its++[v],n+1,ri.append (.cons r .nil),?_⟩);rw[ho'];simp
def Vt(X:Cx)(ifs:List Expr)(t:TT):Prop:=
 ∀(pins:List (Addr×Obj)) (s:Shared) (σ:St) (H:Hp) (Q:Bool->Hp->Prop),bJ X pins σ H s->t σ H Q->
  wpAny (model X.prog X.w) X.A (forIn ifs true fun c r=>if r=true then do let ok <- isTrue c X.env (eval c X.env);pure (ForInStep.yield ok)else pure (ForInStep.yield r)) (TP X pins σ Q) X.xe s
def Vu:TT:=fun _ H Q=>Q true H
theorem lU:Vt X [] Vu:=fun _ _ _ H _ I h=>wpAny_tests_nil ⟨H,I,h⟩
theorem u9{c:Expr}{t:TT}(h:PT X c t):Vt X [c] t:=fun pins s σ H Q I hw=>wpAny_tests_one (h pins s σ H Q I hw)
end
theorem J3{α:Type}{t:Sem α}{Q Q':α->Shared->Prop}{M:Model}{A:Around}{E:Value->Shared->Prop}{s:Shared}(h:wpAny M A t Q (fun _ _=>False) s)(hQ:∀a s,Q a s->Q' a s):wpAny M A t Q' E s:=di h hQ fun _ _ z=>False.elim z
theorem CZ{prog:Program}{w:World}{A:Around}{R:Result->Shared->Prop}{s:Shared}{elt target iter:Expr}{ifs:List Expr}{scope:Scope}{pos:Pos}{it acc:Value}{env:Env}(I:Nat->Shared->Prop)
  (turn:∀n s,I n s->wpAny (model prog w) A (pyNext it) (fun r s₁=>match r with
   |none=>R (.ok .next) s₁
   |some v=>wpAny (model prog w) A (letOwnedTupleGo target it v) (fun _ s₁'=>wpAny (model prog w) A (assign target env v) (fun _ s₂=>
     wpAny (model prog w) A (forIn ifs true fun c r=>if r=true then do let ok <- isTrue c env (eval c env);pure (ForInStep.yield ok)else pure (ForInStep.yield r)) (fun ok s₃=>
      if ok=true then wpAny (model prog w) A (eval elt env) (fun x s₄=>
       wpAny (model prog w) A (call (.builtin "list.append") [acc,x]) (fun _ s₅=>∃m,m<n/\I m s₅) (notedBy (model prog w) A env fun e s'=>R (.error e) s') s₄) (notedBy (model prog w) A env fun e s'=>R (.error e) s') s₃
      else ∃m,m<n/\I m s₃) (notedBy (model prog w) A env fun e s'=>R (.error e) s') s₂) (notedBy (model prog w) A env fun e s'=>R (.error e) s') s₁') (notedBy (model prog w) A env fun e s'=>R (.error e) s') s₁) (notedBy (model prog w) A env fun e s'=>R (.error e) s') s)
  (n:Nat) (h:I n s):
  codeAny (model prog w) A (.compLoop (.ListComp elt [⟨target,iter,ifs,0⟩] scope pos) 0 it acc env) R s:=by
 refine codeAny_loop rfl I (fun n s hI=>?_) n h;show wpAny _ A ((compTurn (.ListComp elt [⟨target,iter,ifs,0⟩] scope pos) 0 it acc env).onRaise (fun x=>do noteFrame x env;theTreesLotGoes x)) _ _ s;refine wpAny_noted ?_;rw[compTurn_list];refine aa (ku (aa (di (turn n s hI) (fun r s₁ h₁=>?_) fun _ _ h'=>h')));cases r with
 |none=>exact ak h₁
 |some v=>
  refine aa (di h₁ (fun _ s₁' h₁'=>?_) fun _ _ h'=>h');refine aa (di h₁' (fun _ s₂ h₂=>aa (di h₂ (fun ok s₃ h₃=>?_) fun _ _ h'=>h')) fun _ _ h'=>h');cases ok with
  |false=>exact ak ⟨rfl,h₃⟩
  |true=>
   exact aa (aa (di h₃ (fun x s₄ h₄=>aa (di h₄ (fun _ s₅ h₅=>ak (ak ⟨rfl,h₅⟩)) fun _ _ h'=>h')) fun _ _ h'=>h'))
section
variable{X:Cx}
def UO(wi:TI)(g:TG)(tt:TT)(te:TE)(vs:List Nat):TE:=fun σ H Q=>wi σ H fun J H1=>∀D,H1 D=none->∃W:Nat->Nat->Hp->Prop,(∃m,W 0 m (upd H1 D (.lst [])))/\∀i m H,W i m H->
 (J.stop i H/\Q (.ref D) H)\/(J.go i H/\∃Nx:Hp->Prop,(∀H',Nx H'->∃m',m'<m/\W (i+1) m' H')/\∀x H',J.JV i H x H'->g x (wipe σ vs) H' fun σ2 H2=>wipe σ2 vs=wipe σ vs/\tt σ2 H2 fun b H3=>
  if b=true then te σ2 H3 fun y H4=>∃acc,H4 D=some (.lst acc)/\acc.length<sizeLine/\Nx (upd H4 D (.lst (acc++[y])))else Nx H3)
theorem IB{pins:List (Addr×Obj)}{s:Shared}{σ:St}{H:Hp}{Q:VK}{elt tg iter:Expr}{ifs:List Expr}{scope:Scope}{own:List (Str×Nat)}{pos pos':Pos}{wi:TI}{g:TG}{tt:TT}{te:TE}{use:Option (Value->Sem Unit)}{Qf:Value->Shared->Prop}
  (hc:X.calm=true) (hN:X.N.Nodup) (I:bJ X pins σ H s) (hi:PI X tg iter wi) (ok:Ey X.N X.env.scope scope own)
  (hg:∀(s:Shared) (H:Hp) (C:Addr) (cl:List (Str×Addr)) (fp:List Addr),PG (X.CY s H scope (compEnvC scope cl C X.env) fp) tg g) (ht:∀(s:Shared) (H:Hp) (C:Addr) (cl:List (Str×Addr)) (fp:List Addr),Vt (X.CY s H scope (compEnvC scope cl C X.env) fp) ifs tt)
  (he:∀(s:Shared) (H:Hp) (C:Addr) (cl:List (Str×Addr)) (fp:List Addr),PE (X.CY s H scope (compEnvC scope cl C X.env) fp) elt te) (hs:∀x,foldedSetIterable iter X.env x=pure x)
  (h:UO wi g tt te (own.map (·.2)) σ H Q)
  (hRR:∀D C s' m H',bJ X pins σ H' s'->Q (.ref D) H'->s'.heap.Ns C m->yh X pins H' C->compPost (model X.prog X.w) X.A X.xe use Qf (.ref D) C (.ok .next) s'):
  wpAny (model X.prog X.w) X.A (comprehension (.ListComp elt [⟨tg,iter,ifs,0⟩] scope pos) scope X.env pos' (newList []) false (eval iter X.env) use) Qf X.xe s:=by
 have hfree:∀y∈scope.names,y.2=.free->∃c,X.env.cells.lookup y.1=some c:=fun y hy e=>by
  rcases ok.free y hy e with k|k
  ·exact I.ok.has _ (.inl k)
  ·exact I.ok.has _ (.inr k)
 refine wpAny_comprehension_free (use:=use) rfl hs (GS hfree) ok.kind (fun y hy e=>by rw[ok.uniq y hy,e])
  (dI (hi pins s σ H _ I h) fun xv s1 hx=>dI hx fun itv s2 h2=>?_)
 obtain⟨it,fp,tn,J,H2,e,I2,T,st2,f2,q⟩:=h2;subst e;refine cG (Ex ?_) (by show 0<=sizeLine;decide);generalize hD:s2.heap.objs.size=D;have hDn:H2 D=none:=I2.hok.fresh (Nat.le_of_eq hD);obtain⟨W,⟨m0,w0⟩,turn⟩:=q D hDn;generalize hs3:({s2 with heap:=s2.heap.push {cls:=.type "list",data:=.seq ([]:List Value).toArray}} :Shared)=s3;have I3:bJ X pins σ (upd H2 D (.lst [])) s3:=by
  rw[<- hs3];refine I2.laid (t':=s2.toks) (fun b o e=>af _ e) (Nat.le_of_eq hD) ⟨bu _,[],0,.nil,?_⟩;rw[<- hD];exact aE _ rfl
 have h3:s3.heap=s2.heap.push {cls:=.type "list",data:=.seq ([]:List Value).toArray}:=by rw[<- hs3]
 have sz:∀b∈fp,b<s2.heap.objs.size:=fun b hb=>by
  obtain⟨o,e,_⟩:=T.obj _ _ st2 b hb;exact aF e
 have f3:∀b∈fp,yh X pins (upd H2 D (.lst [])) b/\b<s3.heap.objs.size:=fun b hb=>by
  have hlt:=sz b hb;refine⟨⟨?_,(f2 b hb).2⟩,by rw[h3,bT];exact fS hlt⟩;rw[aI (by rw[<- hD];exact aT hlt)];exact(f2 b hb).1
 have st3:tn 0 s3.heap:=T.keep _ _ _ st2 fun b _ o e=>by rw[h3];exact af _ e
 have I4:=Ez I3 ok hN f3;have pg:=hg s3 (upd H2 D (.lst [])) s3.heap.objs.size (cellsFrom (s3.heap.objs.size+1) scope.names (eO X.env.cells scope.names [])) fp;have pt:=ht s3 (upd H2 D (.lst [])) s3.heap.objs.size (cellsFrom (s3.heap.objs.size+1) scope.names (eO X.env.cells scope.names [])) fp;have pe:=he s3 (upd H2 D (.lst [])) s3.heap.objs.size (cellsFrom (s3.heap.objs.size+1) scope.names (eO X.env.cells scope.names [])) fp;show codeAny _ _ (.compStart (.ListComp elt [⟨tg,iter,ifs,0⟩] scope pos) 0 (.ref it) (.ref D) (compEnvC scope (cellsFrom (s3.heap.objs.size+1) scope.names (eO X.env.cells scope.names [])) s3.heap.objs.size X.env)) (compPost (model X.prog X.w) X.A X.xe use Qf (.ref D) s3.heap.objs.size) {s3 with heap:=pushCells (s3.heap.push {cls:=.type "dict",data:=.dict #[]}) scope.names};have nfp:∀b∈fp,(upd H2 D (.lst [])) b=none:=fun b hb=>(f3 b hb).1.1;generalize hce:compEnvC scope (cellsFrom (s3.heap.objs.size+1) scope.names (eO X.env.cells scope.names [])) s3.heap.objs.size X.env=ce at I4 pg pt pe ⊢;have cL:ce.locals=s3.heap.objs.size:=by subst hce;rfl
 generalize hH3:upd H2 D (.lst [])=H3 at I3 I4 pg pt pe w0 nfp f3;generalize hs4:({s3 with heap:=pushCells (s3.heap.push {cls:=.type "dict",data:=.dict #[]}) scope.names} :Shared)=s4 at I4 ⊢;have st4:tn 0 s4.heap:=T.keep _ _ _ st3 fun b _ o e=>by rw[<- hs4];exact Gn _ _ _ _ (af _ e)
 have GG:∀{σ':St} {H':Hp} {s':Shared},bJ (X.CY s3 H3 scope ce fp) [] σ' H' s'->(∀b∈fp,H' b=none)->∀b∈fp,yh (X.CY s3 H3 scope ce fp) [] H' b:=fun{σ' H' s'} I' hn b hb=>
  ⟨hn b hb,(I'.ok.UJ b hb).1,I'.ok.GB b hb,.inl hb,fun x c e=>(I'.ok.UJ b hb).2 x c e,fun p hp=>absurd (show p∈([]:List (Addr×Obj))++[]from hp) (by simp)⟩
 have loop:codeAny (model X.prog X.w) X.A (.compLoop (.ListComp elt [⟨tg,iter,ifs,0⟩] scope pos) 0 (.ref it) (.ref D) ce) (compPost (model X.prog X.w) X.A X.xe use Qf (.ref D) s3.heap.objs.size) s4:=by
  refine CZ (fun n s'=>∃i H',bJ (X.CY s3 H3 scope ce fp) [] (wipe σ (own.map (·.2))) H' s'/\tn i s'.heap/\(∀b∈fp,H' b=none)/\W i n H') ?_ m0 ⟨0,H3,I4,st4,nfp,w0⟩;rintro n s5 ⟨i,H5,I5,st5,n5,w5⟩;rcases turn i n H5 w5 with⟨stop,qq⟩|⟨go,Nx,hNx,step⟩
  ·have td:=T.done (X.CY s3 H3 scope ce fp) rfl rfl rfl hc i [] s5 _ H5 (fun _ _=>False) I5 (GG I5 n5) st5 stop;refine J3 td fun r s6 ⟨hr,I6⟩=>?_;subst hr;have I7:bJ X pins σ H5 s6:=I3.QW (ch:=fp) I6.os I6.base I6.hok I6.bare fun b hb=>⟨(f3 b hb).1.2.2.2.1,(f3 b hb).1.2.1,(f3 b hb).1.2.2.2.2.1,(f3 b hb).1.2.2.2.2.2⟩
   have nC:H5 s3.heap.objs.size=none:=by
    have z:H5 ce.locals=none:=I6.free;rw[cL]at z;exact z
   obtain⟨m,hn,_⟩:=I6.loc;have hn:s6.heap.Ns ce.locals m:=hn;rw[cL]at hn;exact hRR D s3.heap.objs.size s6 m H5 I7 qq hn (I3.GC (aq _) nC)
  ·have ti:=T.item (X.CY s3 H3 scope ce fp) rfl rfl rfl hc i [] s5 _ H5 (fun _ _=>False) I5 (GG I5 n5) st5 go;refine J3 ti fun r s6 ⟨u,hr,h6⟩=>?_;subst hr;refine J3 h6 fun _ s7 eT=>?_;obtain⟨x,H7,I7,r7,y7,YE,n7⟩:=eT;have I7':=I7.pinned (GG I7 n7) (T.obj _ _ YE);refine J3 (pg _ s7 _ H7 x u _ I7' r7 (step x H7 y7)) fun _ s8 eT=>?_;obtain⟨σ8,H8,I8,hw8,q8⟩:=eT;refine J3 (pt _ s8 σ8 H8 _ I8 q8) fun b s9 ⟨H9,I9,q9⟩=>?_;have fin:∀{s':Shared} {H':Hp},bJ (X.CY s3 H3 scope ce fp) ([]++yU fp s7.heap) σ8 H' s'->Nx H'->∃m,m<n/\∃i H',bJ (X.CY s3 H3 scope ce fp) [] (wipe σ (own.map (·.2))) H' s'/\tn i s'.heap/\(∀b∈fp,H' b=none)/\W i m H':=fun{s' H'} I' nx=>by
    obtain⟨m',hm,w'⟩:=hNx H' nx;have Vv:∀b∈fp,∀o,s7.heap.get? b=some o->s'.heap.get? b=some o/\H' b=none:=fun b hb o e=>
     let z:=I'.pin (b,o) (ef _ (ef _ (uf hb e)))
     ⟨z.1,z.2.1⟩
    have hl:(wipe σ (own.map (·.2))).length=σ8.length:=by rw[<- hw8,qG]
    refine⟨m',hm,i+1,H',(I'.uT (pins:=[])).weak hl (fun j v e=>?_),T.keep _ _ _ YE fun b hb o e=>(Vv b hb o e).1,fun b hb=>?_,w'⟩
    ·rw[<- hw8]at e;exact(wJ e).1
    ·obtain⟨o,e,_⟩:=T.obj _ _ YE b hb;exact(Vv b hb o e).2
   cases b with
   |false=>
    simp only[i8,nh]at q9 ⊢;exact fin I9 q9
   |true=>
    simp only[lu]at q9 ⊢;refine J3 (pe _ s9 σ8 H9 _ I9 q9) fun z YF eT=>?_;obtain⟨yv,H10,I10,r10,acc,YG,YH,nx⟩:=eT;exact Sf (X:=X.CY s3 H3 scope ce fp) I10 YG YH r10 fun YI I11=>fin I11 nx
 exact codeAny_compStart_list loop (T.self X.A 0 _ _ _ st4 loop)
theorem oB{elt tg iter:Expr}{ifs:List Expr}{scope:Scope}{own:List (Str×Nat)}{pos:Pos}{wi:TI}{g:TG}{tt:TT}{te:TE}(hc:X.calm=true)(hN:X.N.Nodup)(hi:PI X tg iter wi)(ok:Ey X.N X.env.scope scope own)
  (hg:∀(s:Shared) (H:Hp) (C:Addr) (cl:List (Str×Addr)) (fp:List Addr),PG (X.CY s H scope (compEnvC scope cl C X.env) fp) tg g) (ht:∀(s:Shared) (H:Hp) (C:Addr) (cl:List (Str×Addr)) (fp:List Addr),Vt (X.CY s H scope (compEnvC scope cl C X.env) fp) ifs tt)
  (he:∀(s:Shared) (H:Hp) (C:Addr) (cl:List (Str×Addr)) (fp:List Addr),PE (X.CY s H scope (compEnvC scope cl C X.env) fp) elt te) (hs:∀x,foldedSetIterable iter X.env x=pure x:=by intro _;rfl):
  PE X (.ListComp elt [⟨tg,iter,ifs,0⟩] scope pos) (UO wi g tt te (own.map (·.2))):=by
 intro pins s σ H Q I h;rw[eval_ListComp];refine IB hc hN I hi ok hg ht he hs h fun D C s' m H' I' q hn f=>⟨m,hn,fun h'' sb=>?_⟩
 obtain⟨f0,f1,f2,f3,f4,f5⟩:=f;exact⟨.ref D,H',I'.turned (t':=s'.toks) (fun b o hb e=>(sb.2 b hb).trans e) f0 f1 f3 f4 f5,rfl,q⟩
theorem L7{i:Nat}{y:Str}{py:Pos}{elt tg iter:Expr}{ifs:List Expr}{scope:Scope}{own:List (Str×Nat)}{pos spos:Pos}{wi:TI}{g:TG}{tt:TT}{te:TE}(hc:X.calm=true)(hN:X.N.Nodup)(hy:X.N[i]? =some y)(hyl:X.env.scope.names.lookup y=some .local)
  (hsw:swapsWith (.ListComp elt [⟨tg,iter,ifs,0⟩] scope pos) (some (.Name y py)) spos.line X.env=pure true) (hi:PI X tg iter wi) (ok:Ey X.N X.env.scope scope own)
  (hg:∀(s:Shared) (H:Hp) (C:Addr) (cl:List (Str×Addr)) (fp:List Addr),PG (X.CY s H scope (compEnvC scope cl C X.env) fp) tg g) (ht:∀(s:Shared) (H:Hp) (C:Addr) (cl:List (Str×Addr)) (fp:List Addr),Vt (X.CY s H scope (compEnvC scope cl C X.env) fp) ifs tt)
  (he:∀(s:Shared) (H:Hp) (C:Addr) (cl:List (Str×Addr)) (fp:List Addr),PE (X.CY s H scope (compEnvC scope cl C X.env) fp) elt te) (hs:∀x,foldedSetIterable iter X.env x=pure x:=by intro _;rfl):
  PS X (.Assign [.Name y py] (.ListComp elt [⟨tg,iter,ifs,0⟩] scope pos) spos) (RO (UO wi g tt te (own.map (·.2))) (uS i)):=by
 intro pins s σ H D I h;rw[exec_Assign_Name_used _ _ _ _ hsw];refine aa (ku (aa ?_));show wpAny _ X.A (do let _ <- comprehension (.ListComp elt [⟨tg,iter,ifs,0⟩] scope pos) scope X.env (firstIterPos [⟨tg,iter,ifs,0⟩] pos) (newList []) false (eval iter X.env) (some (assign (.Name y py) X.env))) _ _ s;have h:UO wi g tt te (own.map (·.2)) σ H (fun x H1=>uS i x σ H1 D.nx):=h;refine aa (dI (IB (Qf:=fun _ s'=>SP X pins D .next s') hc hN I hi ok hg ht he hs h fun L C s' m H' I' q hn f=>?_) fun _ s' hq=>ak (ak hq));show wpAny _ _ (assign (.Name y py) X.env (.ref L)) _ _ _;refine wpAny_assign_Name (BH (v:=V.ref L) I' hN hy (.inl hyl) rfl (fun s2 I2 ⟨a,sb,ha⟩=>?_) (.inr hyl));obtain⟨f0,f1,f2,f3,f4,f5⟩:=f;have haC:C≠a:=by
  rcases ha with z|z
  ·rw[z];exact f1
  ·exact fun e=>f4 y a z e.symm
 refine⟨m,hn.sameBut sb haC,fun h3 UP=>?_⟩;exact⟨_,H',I2.turned (t':=s2.toks) (fun b o hb e=>(UP.2 b hb).trans e) f0 f1 f3 f4 f5,q⟩
theorem O2{elt:Expr}{gs:List Comprehension}{scope:Scope}{pos py:Pos}{y:Str}{l:Nat}{env:Env}(hk:env.scope.kind=.function)(hy:env.scope.names.lookup y=some .local)(hl:(py.line==pos.line)=true)
  (ha:(scope.names.any fun(n,k)=>n==y&&(k==.local||k==.cell))=false):swapsWith (.ListComp elt gs scope pos) (some (.Name y py)) l env=pure true:=by
 have ky:env.kindOf y=some .local:=hy;have hb:env.blockKind=.function:=by unfold Env.blockKind;rw[hk];rfl
 unfold swapsWith;simp only[hb,ky,ha,Expr.pos,hl];rfl
end
theorem L8{lo:Int}{n:Nat}{g:TG}{tt:TT}{te:TE}{vs:List Nat}{σ:St}{H1:Hp}{D:Addr}{Qd:Hp->Prop}(Pv:Nat->Hp->Prop)(h0:Pv 0 (upd H1 D (.lst [])))
  (hs:∀i H,i<n->Pv i H->g (.int (lo+i)) (wipe σ vs) H fun σ2 H2=>wipe σ2 vs=wipe σ vs/\tt σ2 H2 fun b H3=>
   if b=true then te σ2 H3 fun y H4=>∃acc,H4 D=some (.lst acc)/\acc.length<sizeLine/\Pv (i+1) (upd H4 D (.lst (acc++[y])))else Pv (i+1) H3) (hd:∀H,Pv n H->Qd H):
  ∃W:Nat->Nat->Hp->Prop,(∃m,W 0 m (upd H1 D (.lst [])))/\∀i m H,W i m H->
   ((UL lo n).stop i H/\Qd H)\/((UL lo n).go i H/\∃Nx:Hp->Prop,(∀H',Nx H'->∃m',m'<m/\W (i+1) m' H')/\∀x H',(UL lo n).JV i H x H'->g x (wipe σ vs) H' fun σ2 H2=>wipe σ2 vs=wipe σ vs/\tt σ2 H2 fun b H3=>
    if b=true then te σ2 H3 fun y H4=>∃acc,H4 D=some (.lst acc)/\acc.length<sizeLine/\Nx (upd H4 D (.lst (acc++[y])))else Nx H3):=by
 refine⟨fun i m H=>m=n-i/\i<=n/\Pv i H,⟨n,by simp,bu _,h0⟩,?_⟩;rintro i m H ⟨rfl,hi,p⟩;by_cases hlt:i<n
 ·refine .inr ⟨hlt,Pv (i+1),fun H' p'=>⟨n-(i+1),by omega,rfl,hlt,p'⟩,fun x H' y=>?_⟩;obtain⟨e,y⟩:=y;subst e y;exact hs i _ hlt p
 ·have e:i=n:=by omega
  subst e;exact .inl ⟨aq _,hd H p⟩
theorem jA{K:PySem.W.Frag}{a:Addr}{xs:List V}{g:TG}{tt:TT}{te:TE}{vs:List Nat}{σ:St}{H1:Hp}{D:Addr}{Qd:Hp->Prop}(Pv:Nat->Hp->Prop)(h0:Pv 0 (upd H1 D (.lst [])))(hl:∀i H,i<=xs.length->Pv i H->cI K H a xs)
  (hs:∀i x H,xs[i]? =some x->Pv i H->g x (wipe σ vs) H fun σ2 H2=>wipe σ2 vs=wipe σ vs/\tt σ2 H2 fun b H3=>
   if b=true then te σ2 H3 fun y H4=>∃acc,H4 D=some (.lst acc)/\acc.length<sizeLine/\Pv (i+1) (upd H4 D (.lst (acc++[y])))else Pv (i+1) H3) (hd:∀H,Pv xs.length H->Qd H):
  ∃W:Nat->Nat->Hp->Prop,(∃m,W 0 m (upd H1 D (.lst [])))/\∀i m H,W i m H->
   ((QX K a).stop i H/\Qd H)\/((QX K a).go i H/\∃Nx:Hp->Prop,(∀H',Nx H'->∃m',m'<m/\W (i+1) m' H')/\∀x H',(QX K a).JV i H x H'->g x (wipe σ vs) H' fun σ2 H2=>wipe σ2 vs=wipe σ vs/\tt σ2 H2 fun b H3=>
    if b=true then te σ2 H3 fun y H4=>∃acc,H4 D=some (.lst acc)/\acc.length<sizeLine/\Nx (upd H4 D (.lst (acc++[y])))else Nx H3):=by
 refine⟨fun i m H=>m=xs.length-i/\i<=xs.length/\Pv i H,⟨xs.length,by simp,bu _,h0⟩,?_⟩;rintro i m H ⟨rfl,hi,p⟩;have q:=hl i H hi p;by_cases hlt:i<xs.length
 ·refine .inr ⟨⟨xs,xs[i],q,by simp[hlt]⟩,Pv (i+1),fun H' p'=>⟨xs.length-(i+1),by omega,rfl,hlt,p'⟩,fun x H' y=>?_⟩;obtain⟨e,y⟩:=y;subst e;exact hs i x _ (y xs q) p
 ·have e:i=xs.length:=by omega
  subst e;exact .inl ⟨⟨xs,q,aq _⟩,hd H p⟩
def Vw(N:List Str)(sc scope:Scope)(own:List (Str×Nat)):Bool:=
 (match scope.kind with| .function=>true|_=>false)&&(scope.names.all fun y=>decide (scope.names.lookup y.1=some y.2))&&(own.all fun p=>decide (N[p.2]? =some p.1))&&
  (scope.names.all fun y=>match y.2 with
   | .free=>(match sc.names.lookup y.1 with|some .cell=>true|some .free=>true|_=>false)
   | .local=>decide (y.1∈own.map (·.1))||decide (y.1∉N)
   | .cell=>decide (y.1∈own.map (·.1))||decide (y.1∉N)
   |_=>true)
theorem fM{N:List Str}{sc scope:Scope}{own:List (Str×Nat)}(h:Vw N sc scope own=true):Ey N sc scope own:=by
 unfold Vw at h;simp only[bB,List.all_eq_true,decide_eq_true_eq]at h;obtain⟨⟨⟨h1,h2⟩,h3⟩,h4⟩:=h;refine⟨?_,h2,h3,fun y hy e=>?_,fun y hy e=>?_⟩
 ·split at h1
  ·assumption
  ·cases h1
 ·have q:=h4 y hy;simp only[e]at q;split at q<;>first|exact .inl (by assumption)|exact .inr (by assumption)|cases q
 ·have q:=h4 y hy;rcases e with e|e<;>(simp only[e,A8,decide_eq_true_eq]at q;exact q)
section
variable{κ:Type}[DecidableEq κ]
def dc(kvs:List (κ×V))(k:κ):Option V:=(kvs.find? fun kv=>decide (kv.1=k)).map (·.2)
def putK(kvs:List (κ×V))(k:κ)(v:V):List (κ×V):=
 if(kvs.any fun kv=>decide (kv.1=k))=true then kvs.map (fun kv=>if kv.1=k then(kv.1,v)else kv)else kvs++[(k,v)]
def iM(kvs:List (κ×V))(k:κ):List (κ×V):=kvs.filter fun kv=>decide (kv.1≠k)
theorem Ma{k:κ} :dc ([]:List (κ×V)) k=none:=rfl
theorem fE{p:κ×V}{r:List (κ×V)}{k:κ}(e:p.1=k):dc (p::r) k=some p.2:=by simp[dc,dQ,e]
theorem fh{p:κ×V}{r:List (κ×V)}{k:κ}(e:¬p.1=k):dc (p::r) k=dc r k:=by simp[dc,dQ,e]
theorem iS(k:κ):∀kvs:List (κ×V),(kvs.any fun kv=>decide (kv.1=k))=(dc kvs k).isSome
 |[]=>rfl
 |p::r=>by
  rw[ff];by_cases e:p.1=k
  ·simp only[fE e,aC e,Bool.true_or,Option.isSome_some]
  ·rw[fh e,aK e,lS];exact iS k r
theorem EB(k j:κ)(y:V):∀kvs:List (κ×V),dc (kvs.map fun kv=>if kv.1=k then(kv.1,y)else kv) j=(dc kvs j).map fun x=>if j=k then y else x
 |[]=>rfl
 |p::r=>by
  have ih:=EB k j y r;rw[aV];by_cases h:p.1=k
  ·rw[aB h];by_cases e:p.1=j
   ·rw[fE (p:=(p.1,y)) e,fE e,Gp,aB (e.symm.trans h)]
   ·rw[fh (p:=(p.1,y)) e,fh e,ih]
  ·rw[ao h];by_cases e:p.1=j
   ·rw[fE (p:=p) e,fE e,Gp,ao (fun z=>h (e.trans z))]
   ·rw[fh (p:=p) e,fh e,ih]
theorem BQ(k j:κ)(y:V):∀kvs:List (κ×V),dc kvs k=none->dc (kvs++[(k,y)]) j=if j=k then some y else dc kvs j
 |[],_=>by
  by_cases e:k=j
  ·rw[aB e.symm];exact fE (p:=(k,y)) e
  ·rw[ao (fun z=>e z.symm)];exact fh (p:=(k,y)) e
 |p::r,hn=>by
  rw[A7];have hk:¬p.1=k:=fun z=>by rw[fE z]at hn;cases hn
  rw[fh hk]at hn;have ih:=BQ k j y r hn;by_cases e:p.1=j
  ·rw[fE e,fE e,ao (fun z=>hk (e.trans z))]
  ·rw[fh e,fh e,ih]
theorem mC(kvs:List (κ×V))(k j:κ)(y:V):dc (putK kvs k y) j=if j=k then some y else dc kvs j:=by
 unfold putK;by_cases a:(kvs.any fun kv=>decide (kv.1=k))=true
 ·rw[aB a,EB];rw[iS]at a;by_cases e:j=k
  ·obtain⟨x,hx⟩:=Option.isSome_iff_exists.mp a;rw[aB e,e,hx,Gp,aB rfl]
  ·rw[ao e];cases dc kvs j with
   |none=>rfl
   |some x=>rw[Gp,ao e]
 ·rw[ao a];refine BQ k j y kvs ?_;rw[iS]at a;cases q:dc kvs k with
  |none=>rfl
  |some x=>rw[q]at a;exact(a rfl).elim
theorem fN(kvs:List (κ×V))(k:κ)(v:V):(putK kvs k v).length<=kvs.length+1:=by
 unfold putK;split
 ·rw[ai];omega
 ·rw[au,az,dj];omega
theorem Mb{kvs:List (κ×V)}{k:κ}(v:V)(h:dc kvs k=none):putK kvs k v=kvs++[(k,v)]:=by
 unfold putK;rw[iS,h];exact ao (by decide)
theorem nW.oE{o:Option V}{u:Option Value}(r:nW o u):o.isSome=u.isSome:=by
 cases o with
 |none=>cases u with
  |none=>rfl
  |some _=>exact(show False from r).elim
 |some _=>cases u with
  |none=>exact(show False from r).elim
  |some _=>rfl
theorem nW.getD{o:Option V}{u:Option Value}{d:V}{d':Value}(r:nW o u)(rd:cQ d d'):cQ (o.getD d) (u.getD d'):=by
 cases o with
 |none=>cases u with
  |none=>exact rd
  |some _=>exact(show False from r).elim
 |some _=>cases u with
  |none=>exact(show False from r).elim
  |some _=>exact r
theorem KV.val{kvs:List (κ×V)}{vs:List (κ×Value)}(r:KV kvs vs)(k:κ):nW (dc kvs k) (valueAt vs k):=by
 unfold KV at r;induction r with
 |nil=>exact True.intro
 | @cons p q ps qs h t ih=>
  obtain⟨h1,h2⟩:=h;by_cases e:p.1=k
  ·have e':q.1=k:=h1.symm.trans e;have b:valueAt (q::qs) k=some q.2:=by simp[valueAt,dQ,e']
   rw[fE e,b];exact h2
  ·have e':¬q.1=k:=fun z=>e (h1.trans z);have b:valueAt (q::qs) k=valueAt qs k:=by simp[valueAt,dQ,e']
   rw[fh e,b];exact ih
theorem KV.any{kvs:List (κ×V)}{vs:List (κ×Value)}(r:KV kvs vs)(k:κ):(kvs.any fun kv=>decide (kv.1=k))=vs.any fun kv=>decide (kv.1=k):=by
 unfold KV at r;induction r with
 |nil=>rfl
 |cons h t ih=>rw[ff,ff,ih,h.1]
theorem KV.repl{kvs:List (κ×V)}{vs:List (κ×Value)}(r:KV kvs vs)(k:κ){y:V}{u:Value}(ry:cQ y u):
  KV (kvs.map fun kv=>if kv.1=k then(kv.1,y)else kv) (vs.map fun kv=>if kv.1=k then(kv.1,u)else kv):=by
 unfold KV at r ⊢;induction r with
 |nil=>exact .nil
 | @cons p q ps qs h t ih=>
  rw[aV,aV];refine .cons ?_ ih;obtain⟨h1,h2⟩:=h;by_cases e:p.1=k
  ·rw[aB e,aB (h1.symm.trans e)];exact⟨h1,ry⟩
  ·rw[ao e,ao (fun z=>e (h1.trans z))];exact⟨h1,h2⟩
theorem KV.put{kvs:List (κ×V)}{vs:List (κ×Value)}(r:KV kvs vs)(k:κ){y:V}{u:Value}(ry:cQ y u):KV (putK kvs k y) (stored vs k u):=by
 unfold putK stored;rw[r.any k];by_cases e:(vs.any fun kv=>decide (kv.1=k))=true
 ·rw[aB e,aB e];exact r.repl k ry
 ·rw[ao e,ao e];exact iO r ⟨rfl,ry⟩
theorem KV.drop{kvs:List (κ×V)}{vs:List (κ×Value)}(r:KV kvs vs)(k:κ):KV (iM kvs k) (without vs k):=by
 unfold KV at r ⊢;unfold iM without;induction r with
 |nil=>exact .nil
 | @cons p q ps qs h t ih=>
  obtain⟨h1,h2⟩:=h;rw[cD,cD];by_cases e:p.1=k
  ·have a:¬decide (p.1≠k)=true:=by simp[e]
   have b:¬decide (q.1≠k)=true:=by simp[h1.symm.trans e]
   rw[ao a,ao b];exact ih
  ·have e':¬q.1=k:=fun z=>e (h1.trans z);have a:decide (p.1≠k)=true:=by simp[e]
   have b:decide (q.1≠k)=true:=by simp[e']
   rw[aB a,aB b];exact .cons ⟨h1,h2⟩ ih
theorem KV.length{kvs:List (κ×V)}{vs:List (κ×Value)}(r:KV kvs vs):kvs.length=vs.length:=bg r
theorem Mc(kvs:List (κ×V))(k:κ):(iM kvs k).length<=kvs.length:=b9 _ _
end
theorem qH{P:Program}{w:World}{k:Key}{u:Value}(r:cQ (kV k) u):(cN P w).is k u=true:=by
 cases k with
 |inl i=>obtain⟨t,e⟩:=(show ∃t,u=Value.int i t from r);subst e;exact xA P w i t
 |inr x=>obtain⟨t,e⟩:=(show ∃t,u=Value.str x t from r);subst e;exact Ej P w x t
theorem BR{P:Program}{w:World} :∀{ks:List Key} {us:List Value},cC (ks.map kV) us->ItemsAre (cN P w) ks us
 |[],_,r=>by rw[qj]at r;cases r;exact .nil
 |k::ks,_,r=>by
  rw[aV]at r;cases r with
  |cons h t=>exact .cons (qH h) (BR t)
abbrev KT(H:Hp):List (List Key×V)->List (List Key×Addr×Value)->Prop:=Paired fun p q=>p.1=q.1/\H q.2.1=some (.tup (p.1.map kV))/\cQ p.2 q.2.2
theorem KT.val{H:Hp}{kvs:List (List Key×V)}{xs:List (List Key×Addr×Value)}(r:KT H kvs xs)(k:List Key):nW (dc kvs k) ((atKey xs k).map (·.2)):=by
 induction r with
 |nil=>exact True.intro
 | @cons p q ps qs h t ih=>
  obtain⟨h1,_,h2⟩:=h;by_cases e:p.1=k
  ·have e':q.1=k:=h1.symm.trans e;have b:atKey (q::qs) k=some q.2:=by simp[atKey,dQ,e']
   rw[fE e,b];exact h2
  ·have e':¬q.1=k:=fun z=>e (h1.trans z);have b:atKey (q::qs) k=atKey qs k:=by simp[atKey,dQ,e']
   rw[fh e,b];exact ih
theorem KT.repl{H:Hp}{kvs:List (List Key×V)}{xs:List (List Key×Addr×Value)}(r:KT H kvs xs)(k:List Key){y:V}{u:Value}(ry:cQ y u):
  KT H (kvs.map fun kv=>if kv.1=k then(kv.1,y)else kv) (xs.map (putAt k u)):=by
 induction r with
 |nil=>exact .nil
 | @cons p q ps qs h t ih=>
  rw[aV,aV];refine .cons ?_ ih;obtain⟨h1,h2,h3⟩:=h;unfold putAt;by_cases e:p.1=k
  ·rw[aB e,aB (h1.symm.trans e)];exact⟨h1,h2,ry⟩
  ·rw[ao e,ao (fun z=>e (h1.trans z))];exact⟨h1,h2,h3⟩
theorem KT.put{H:Hp}{kvs:List (List Key×V)}{xs:List (List Key×Addr×Value)}(r:KT H kvs xs)(k:List Key){b:Addr}{y:V}{u:Value}(hb:H b=some (.tup (k.map kV)))(ry:cQ y u):
  KT H (putK kvs k y) (storedH xs k b u):=by
 have e:(kvs.any fun kv=>decide (kv.1=k))=(atKey xs k).isSome:=by
  rw[iS,(r.val k).oE,qi]
 unfold putK storedH;rw[e];by_cases q:(atKey xs k).isSome=true
 ·rw[aB q,aB q];exact r.repl k ry
 ·rw[ao q,ao q];exact iO r ⟨rfl,hb,ry⟩
theorem KT.keeps{H H':Hp}{kvs:List (List Key×V)}{xs:List (List Key×Addr×Value)}(r:KT H kvs xs)(ht:∀b ys,H b=some (.tup ys)->H' b=some (.tup ys)):KT H' kvs xs:=
 Paired.RG r fun _ _ z=>⟨z.1,ht _ _ z.2.1,z.2.2⟩
section
variable{P:Program}{w:World}{H:Hp}{h:Heap}{a:Addr}
theorem Q8{u:HO}(ok:qp P w H h)(e:Rd H a u):eX P w H h a u:=e.ok ok
theorem qI{kvs:List (Key×V)}(ok:qp P w H h)(e:Rd H a (.dK kvs)):kvs.length<=sizeLine/\(a==sysModules)=false/\∃vs,KV kvs vs/\h.DictOf (cN P w) a vs:=
 show eX P w H h a (.dK kvs)from Q8 ok e
theorem EC{kvs:List (Key×V)}(ok:qp P w H h)(e:H a=some (.dK kvs)):kvs.length<=sizeLine/\(a==sysModules)=false/\∃vs,KV kvs vs/\h.DictOf (cN P w) a vs:=qI ok (.inl e)
theorem qJ{ks:List Key}(ok:qp P w H h)(e:H a=some (.tup (ks.map kV))):(tupleKind (cN P w)).is h ks a:=by
 obtain⟨_,its,r,o,h1,h2,n,h3⟩:=(show eX P w H h a (.tup (ks.map kV))from ok a _ e)
 exact⟨o,its.toArray,n,h1,h2,h3,by simpa using BR r⟩
theorem xD{kvs:List (List Key×V)}(ok:qp P w H h)(e:Rd H a (.dT kvs)):kvs.length<=sizeLine/\(a==sysModules)=false/\
  ∃xs,KT H kvs xs/\h.DictOfH (tupleKind (cN P w)) a xs:=by
 obtain⟨z,y,xs,r,o,es,ep,h1,h2,h3,h4,h5⟩:=(show eX P w H h a (.dT kvs)from Q8 ok e)
 refine⟨z,y,xs,r,o,es,ep,h1,h2,h3,h4,fun x hx=>?_,h5⟩;have all:∀{l:List (List Key×V)} {m:List (List Key×Addr×Value)},KT H l m->∀x∈m,(tupleKind (cN P w)).is h x.1 x.2.1:=by
  intro l m q;induction q with
  |nil=>intro x hx;exact nomatch hx
  | @cons p q ps qs hq t ih=>
   intro x hx;rcases List.mem_cons.mp hx with e|hx
   ·subst e;exact qJ ok (by rw[<- hq.1];exact hq.2.1)
   ·exact ih x hx
 exact all r x hx
theorem Q9{kvs:List (List Key×V)}(ok:qp P w H h)(e:H a=some (.dT kvs)):kvs.length<=sizeLine/\(a==sysModules)=false/\
  ∃xs,KT H kvs xs/\h.DictOfH (tupleKind (cN P w)) a xs:=xD ok (.inl e)
end
def fO(H:Hp)(a:Addr)(y:V)(r:Option V):Prop:=
 (∃kvs k,Rd H a (.dK kvs)/\y=kV k/\r=dc kvs k)\/∃kvs k b,Rd H a (.dT kvs)/\y=.ref b/\H b=some (.tup (k.map kV))/\r=dc kvs k
def yi(H:Hp)(a:Addr)(y v:V)(H':Hp):Prop:=
 (∃kvs k,H a=some (.dK kvs)/\y=kV k/\kvs.length<sizeLine/\H'=upd H a (.dK (putK kvs k v)))\/
 ∃kvs k b,H a=some (.dT kvs)/\y=.ref b/\H b=some (.tup (k.map kV))/\kvs.length<sizeLine/\H'=upd H a (.dT (putK kvs k v))
theorem fO.k{H:Hp}{a:Addr}{kvs:List (Key×V)}{k:Key}(e:H a=some (.dK kvs)):fO H a (kV k) (dc kvs k):=.inl ⟨kvs,k,.inl e,rfl,rfl⟩
theorem fO.t{H:Hp}{a b:Addr}{kvs:List (List Key×V)}{k:List Key}(e:H a=some (.dT kvs))(eb:H b=some (.tup (k.map kV))):fO H a (.ref b) (dc kvs k):=.inr ⟨kvs,k,b,.inl e,rfl,eb,rfl⟩
theorem yi.k{H:Hp}{a:Addr}{kvs:List (Key×V)}{k:Key}{v:V}(e:H a=some (.dK kvs))(hl:kvs.length<sizeLine):yi H a (kV k) v (upd H a (.dK (putK kvs k v))):=.inl ⟨kvs,k,e,rfl,hl,rfl⟩
theorem yi.t{H:Hp}{a b:Addr}{kvs:List (List Key×V)}{k:List Key}{v:V}(e:H a=some (.dT kvs))(eb:H b=some (.tup (k.map kV)))(hl:kvs.length<sizeLine):
  yi H a (.ref b) v (upd H a (.dT (putK kvs k v))):=.inr ⟨kvs,k,b,e,rfl,eb,hl,rfl⟩
section
variable{X:Cx}{pins:List (Addr×Obj)}{σ:St}{H:Hp}{s:Shared}{a:Addr}{y v:V}{u r:Value}{o:Option V}{A:Around}{E:Value->Shared->Prop}
theorem bJ.big(I:bJ X pins σ H s):sysModules<s.heap.objs.size:=by
 have h:mainGlobals<s.heap.objs.size:=(I.mod.glob.keeps I.bk).lt;exact nU (by decide) h
theorem J4{Q:Value->Shared->Prop}(hu:A.units+1<cLine)(I:bJ X pins σ H s)(g:fO H a y (some v))(ry:cQ y u)(h:∀w' s',bJ X pins σ H s'->cQ v w'->Q w' s'):
  wpAny (model X.prog X.w) A (getItem (.ref a) u) Q E s:=by
 rcases g with⟨kvs,k,e,ey,l⟩|⟨kvs,k,b,e,ey,eb,l⟩
 ·subst ey;obtain⟨z,hd,vs,rel,dd⟩:=qI I.hok e;obtain⟨w',hw,rw'⟩:=nW.some_of (v:=v) (o:=valueAt vs k) (by rw[l];exact rel.val k);exact wpAny_getItem_of (qH ry) dd.mapOf hw (h w' _ (I.tok _) rw')
 ·subst ey;cases (show u=Value.ref b from ry);obtain⟨z,hd,xs,rel,dd⟩:=xD I.hok e;obtain⟨w',hw,rw'⟩:=nW.some_of (v:=v) (o:=(atKey xs k).map (·.2)) (by rw[l];exact rel.val k);obtain⟨p,hp,hp2⟩:=Option.map_eq_some_iff.mp hw;refine wpAny_getItem_heap (gW hu) (qJ I.hok eb) dd hp ?_;rw[hp2];exact h w' _ (I.tok _) rw'
theorem YJ{Q:Value->Shared->Prop}(hu:A.units+1<cLine)(I:bJ X pins σ H s)(g:fO H a y o)(ry:cQ y u)(h:∀s',bJ X pins σ H s'->Q (.bool o.isSome) s'):
  wpAny (model X.prog X.w) A (compareOp .In u (.ref a)) Q E s:=by
 rcases g with⟨kvs,k,e,ey,l⟩|⟨kvs,k,b,e,ey,eb,l⟩
 ·subst ey;obtain⟨z,hd,vs,rel,dd⟩:=qI I.hok e;refine wpAny_in_of (qH ry) hd dd.mapOf ?_;rw[<- (rel.val k).oE, <- l];exact h _ (I.tok _)
 ·subst ey;cases (show u=Value.ref b from ry);obtain⟨z,hd,xs,rel,dd⟩:=xD I.hok e;refine wpAny_in_heap (gW hu) (qJ I.hok eb) hd dd ?_;have q:=(rel.val k).oE;rw[qi]at q;rw[<- q, <- l];exact h _ (I.tok _)
theorem O3{Q:Value->Shared->Prop}(hu:A.units+1<cLine)(I:bJ X pins σ H s)(g:fO H a y o)(ry:cQ y u)(h:∀s',bJ X pins σ H s'->Q (.bool (!o.isSome)) s'):
  wpAny (model X.prog X.w) A (compareOp .NotIn u (.ref a)) Q E s:=by
 rcases g with⟨kvs,k,e,ey,l⟩|⟨kvs,k,b,e,ey,eb,l⟩
 ·subst ey;obtain⟨z,hd,vs,rel,dd⟩:=qI I.hok e;refine wpAny_notIn_of (qH ry) hd dd.mapOf ?_;rw[<- (rel.val k).oE, <- l];exact h _ (I.tok _)
 ·subst ey;cases (show u=Value.ref b from ry);obtain⟨z,hd,xs,rel,dd⟩:=xD I.hok e;refine wpAny_notIn_heap (gW hu) (qJ I.hok eb) hd dd ?_;have q:=(rel.val k).oE;rw[qi]at q;rw[<- q, <- l];exact h _ (I.tok _)
theorem nE{h':Heap}{t':Nat}{ob:HO}(I:bJ X pins σ H s)(mu:OP (H a))(hs:Heap.SameBut a s.heap h')(he:∃q,h'.get? a=some q)(new:eX X.prog X.w (upd H a ob) h' a ob):
  bJ X pins σ (upd H a ob) {s with heap:=h',toks:=t'}:=
 I.write (x:=a) (e:=a) mu (.inl rfl) (fun b q hb z=>(hs.2 b hb).trans z) he new
theorem zk{P:Program}{w:World}{H':Hp}{h':Heap}{kvs:List (Key×V)}{vs:List (Key×Value)}(z:kvs.length<=sizeLine)(hd:(a==sysModules)=false)(rel:KV kvs vs)(dd:h'.DictOf (cN P w) a vs):
  eX P w H' h' a (.dK kvs):=⟨z,hd,vs,rel,dd⟩
theorem J5{H':Hp}{Q:Unit->Shared->Prop}(hu:A.units+1<cLine)(I:bJ X pins σ H s)(g:yi H a y v H')(ry:cQ y u)(rv:cQ v r)(h:∀s',bJ X pins σ H' s'->Q () s'):
  wpAny (model X.prog X.w) A (setItem (.ref a) u r) Q E s:=by
 rcases g with⟨kvs,k,e,ey,l,eH⟩|⟨kvs,k,b,e,ey,eb,l,eH⟩
 ·subst ey eH;obtain⟨z,hd,vs,rel,dd⟩:=EC I.hok e;have hz:vs.length<=sizeLine:=by rw[<- rel.length];exact z
  have hl:(putK kvs k v).length<=sizeLine:=by have:=fN kvs k v;omega
  refine wpAny_setItem_pairs (hsz:=hz) (qH ry) dd fun h' Bf hs=>h _ ?_;have he:∃q,h'.get? a=some q:=let ⟨q,_,_,hq,_⟩:=Bf;⟨q,hq⟩;exact nE I (by rw[e];exact True.intro) hs he (zk hl hd (rel.put k rv) Bf)
 ·subst ey eH;cases (show u=Value.ref b from ry);obtain⟨z,hd,xs,rel,dd⟩:=Q9 I.hok e;have hz:xs.length<=sizeLine:=by rw[<- bg rel];exact z
  have hl:(putK kvs k v).length<=sizeLine:=by have:=fN kvs k v;omega
  refine wpAny_setItem_heap (hsz:=hz) (gW hu) (qJ I.hok eb) dd fun h' Bf hs=>h _ ?_;obtain⟨q,es,ep,hq,h2,h3,h4,_,h5⟩:=Bf;refine nE I (by rw[e];exact True.intro) hs ⟨q,hq⟩ ⟨hl,hd,_,(rel.put k eb rv).keeps fun c ys ec=>?_,q,es,ep,hq,h2,h3,h4,h5⟩;rw[aI (ic ec e (fun z=>nomatch z))];exact ec
end
section
variable{X:Cx}{pins:List (Addr×Obj)}{σ:St}{H:Hp}{s:Shared}{a:Addr}{kvs:List (Key×V)}{k:Key}{u:Value}{A:Around}{E:Value->Shared->Prop}
theorem Ra{v:V}{more:List Value}{Q:Value->Shared->Prop}(I:bJ X pins σ H s)(e:H a=some (.dK kvs))(ry:cQ (kV k) u)(l:dc kvs k=some v)(hm:more=[]\/∃x,more=[x])
  (h:∀w' s',bJ X pins σ (upd H a (.dK (iM kvs k))) s'->cQ v w'->Q w' s'):wpAny (model X.prog X.w) A (call (.builtin "dict.pop") (.ref a::u::more)) Q E s:=by
 obtain⟨z,hd,vs,rel,dd⟩:=EC I.hok e;obtain⟨w',hw,rw'⟩:=nW.some_of (v:=v) (o:=valueAt vs k) (by rw[<- l];exact rel.val k);have hp:(keyPart u).isSome=true:=by
  cases k with
  |inl i=>obtain⟨t,q⟩:=(show ∃t,u=Value.int i t from ry);subst q;rfl
  |inr x=>obtain⟨t,q⟩:=(show ∃t,u=Value.str x t from ry);subst q;rfl
 have ha:argsOk "dict.pop" ⟨.ref a::u::more,[]⟩:=by
  rcases hm with q|⟨x,q⟩
  ·subst q;exact PySem.F.args_dict_pop_2 _ _
  ·subst q;exact PySem.F.args_dict_pop_3 _ _ _
 refine jR o6 dd.typeIs PySem.F.entry_dict_pop ha (meets_dict_pop_there (cN X.prog X.w) a (qH ry) more hm hp)
  ⟨vs,w',dd,by rw[<- rel.length];exact z,hw,fun h' Bf hs=>h w' _ ?_ rw'⟩
 have he:∃q,h'.get? a=some q:=let ⟨q,_,_,hq,_⟩:=Bf;⟨q,hq⟩;exact nE I (by rw[e];exact True.intro) hs he (zk (aP (Mc kvs k) z) hd (rel.drop k) Bf)
theorem Sg{r:Value}{Q:Value->Shared->Prop}(I:bJ X pins σ H s)(e:H a=some (.dK kvs))(ry:cQ (kV k) u)(l:dc kvs k=none)(h:∀s',bJ X pins σ H s'->Q r s'):
  wpAny (model X.prog X.w) A (call (.builtin "dict.pop") [.ref a,u,r]) Q E s:=by
 obtain⟨z,hd,vs,rel,dd⟩:=EC I.hok e;have hn:valueAt vs k=none:=nW.none_of (by rw[<- l];exact rel.val k);have hp:(keyPart u).isSome=true:=by
  cases k with
  |inl i=>obtain⟨t,q⟩:=(show ∃t,u=Value.int i t from ry);subst q;rfl
  |inr x=>obtain⟨t,q⟩:=(show ∃t,u=Value.str x t from ry);subst q;rfl
 exact jR o6 dd.typeIs PySem.F.entry_dict_pop (PySem.F.args_dict_pop_3 _ _ _) (meets_dict_pop_default (cN X.prog X.w) a (qH ry) hd hp r) ⟨vs,dd,hn,h _ (I.tok _)⟩
theorem Vx{Q:Value->Shared->Prop}(I:bJ X pins σ H s)(e:Rd H a (.dK kvs))(h:∀t s',bJ X pins σ H s'->Q (.int kvs.length t) s'):wpAny (model X.prog X.w) A (call (.builtin "len") [.ref a]) Q E s:=by
 obtain⟨z,hd,vs,rel,dd⟩:=qI I.hok e;refine call_len_dict hd dd (by rw[<- rel.length];rw[jN]at z;omega) ?_;rw[<- rel.length];exact h _ _ (I.tok _)
end
def O4(i:Expr):Prop:=∀ov iv,subscripted i false ov iv=operate [ov,iv] (getItem ov iv)
theorem IC{prog:Program}{w:World}{A:Around}{E:Value->Shared->Prop}{s:Shared}{env:Env}{value slice:Expr}{pos:Pos}{T id:String}{Q:Value->Shared->Prop}
  (hl:typeLookup (.type T) "__getitem__"=pure (some (.builtin id))) (hs:O4 slice)
  (h:wpAny (model prog w) A (eval value env) (fun o s₁=>wpAny (model prog w) A (eval slice env) (fun i s₂=>s₂.TypeIs o T/\wpAny (model prog w) A (getItem o i) Q E s₂) E s₁) E s):
  wpAny (model prog w) A (eval (.Subscript value slice pos) env) Q E s:=by
 refine Subscript_ (di h (fun o s₁ h₁=>di h₁ (fun i s₂ h₂=>?_) fun _ _ x=>x) fun _ _ x=>x);obtain⟨hT,h₂⟩:=h₂;unfold subscriptTail;refine aa ?_;rw[getitemInPython_of_ne hT.not_modules];refine aa (wpAny_specialOf hT hl ?_);have fin:wpAny (model prog w) A (subscripted slice false o i) (fun r s₃=>wpAny (model prog w) A (letTemporaryGo value o r >>=fun _=>pure r) Q E s₃) E s₂:=by
  rw[hs o i];exact wpAny_operating (di h₂ (fun r s₃ h₃=>aa (wpAny_letTemporaryGo (ak h₃))) fun _ _ x=>x)
 first
  |exact ak (aa fin)
  |exact aa (ak (aa fin))
  |exact aa fin
theorem ED{X:Cx}{pins:List (Addr×Obj)}{σ:St}{H:Hp}{s:Shared}{a:Addr}{y:V}{o:Option V}(I:bJ X pins σ H s)(g:fO H a y o):s.TypeIs (.ref a) "dict":=by
 rcases g with⟨kvs,k,e,_,_⟩|⟨kvs,k,b,e,_,_,_⟩
 ·obtain⟨_,_,vs,_,dd⟩:=qI I.hok e;exact dd.typeIs
 ·obtain⟨_,_,xs,_,dd⟩:=xD I.hok e;exact dd.typeIs
def Rb(td ty:TE):TE:=fun σ H Q=>td σ H fun x H1=>ty σ H1 fun y H2=>∃a v,x=.ref a/\fO H2 a y (some v)/\Q v H2
def Sh(ty td:TE):TE:=fun σ H Q=>ty σ H fun y H1=>td σ H1 fun x H2=>∃a o,x=.ref a/\fO H2 a y o/\Q (.bl o.isSome) H2
def O5(ty td:TE):TE:=fun σ H Q=>ty σ H fun y H1=>td σ H1 fun x H2=>∃a o,x=.ref a/\fO H2 a y o/\Q (.bl (!o.isSome)) H2
def Vy(td ty tv:TE):TS:=fun D σ H=>tv σ H fun v H1=>td σ H1 fun x H2=>ty σ H2 fun y H3=>∃a H4,x=.ref a/\yi H3 a y v H4/\D.nx σ H4
section
variable{X:Cx}{o i e value:Expr}{pos pos' tpos:Pos}{td ty tv:TE}
theorem gc(hu:X.A.units+1<cLine)(ho:PE X o td)(hi:PE X i ty)(hs:O4 i):PE X (.Subscript o i pos) (Rb td ty):=by
 intro pins s σ H Q I h;refine IC PySem.F.slot_dict_getitem.lookup hs (dI (ho pins s σ H _ I h) fun u s1 ⟨x,H1,I1,rx,q1⟩=>dI (hi pins s1 σ H1 _ I1 q1) fun iv s2 eT=>?_);obtain⟨y,H2,I2,ry,a,v,ex,g,q2⟩:=eT;subst ex;obtain rfl:u=Value.ref a:=rx;exact⟨ED I2 g,J4 hu I2 g ry fun w' s3 I3 rw'=>⟨v,H2,I3,rw',q2⟩⟩
theorem C0(hu:X.A.units+1<cLine)(hi:PE X i ty)(ho:PE X o td):PC X .In i o (Sh ty td):=by
 intro pins s σ H Q I h;refine dI (hi pins s σ H _ I h) fun iv s1 ⟨y,H1,I1,ry,q1⟩=>dI (ho pins s1 σ H1 _ I1 q1) fun u s2 eT=>?_;obtain⟨x,H2,I2,rx,a,ov,ex,g,q2⟩:=eT;subst ex;obtain rfl:u=Value.ref a:=rx;exact YJ hu I2 g ry fun s3 I3=>⟨.bl ov.isSome,H2,I3,rfl,q2⟩
theorem oF(hu:X.A.units+1<cLine)(hi:PE X i ty)(ho:PE X o td):PC X .NotIn i o (O5 ty td):=by
 intro pins s σ H Q I h;refine dI (hi pins s σ H _ I h) fun iv s1 ⟨y,H1,I1,ry,q1⟩=>dI (ho pins s1 σ H1 _ I1 q1) fun u s2 eT=>?_;obtain⟨x,H2,I2,rx,a,ov,ex,g,q2⟩:=eT;subst ex;obtain rfl:u=Value.ref a:=rx;exact O3 hu I2 g ry fun s3 I3=>⟨.bl (!ov.isSome),H2,I3,rfl,q2⟩
theorem sj(hu:X.A.units+1<cLine)(ho:PE X o td)(hi:PE X i ty)(hv:PE X value tv)(hs:swapsWith value (some (.Subscript o i pos')) pos.line X.env=pure false):
  PS X (.Assign [.Subscript o i pos'] value pos) (Vy td ty tv):=by
 intro pins s σ H D I h;refine wpAny_Assign_Subscript (dI (hv pins s σ H _ I h) fun r s1 ⟨v,H1,I1,rv,q1⟩=>dI (ho pins s1 σ H1 _ I1 q1) fun u s2 ⟨x,H2,I2,rx,q2⟩=>dI (hi pins s2 σ H2 _ I2 q2) fun iv s3 eT=>?_) hs;obtain⟨y,H3,I3,ry,a,H4,ex,g,q3⟩:=eT;subst ex;obtain rfl:u=Value.ref a:=rx;exact J5 hu I3 g ry rv fun s4 I4=>⟨σ,H4,I4,q3⟩
end
theorem EE{P:Program}{w:World}{H:Hp}(h:Heap)(hb:sysModules<h.objs.size):eX P w H (h.push {cls:=.type "dict",data:=.dict #[]}) h.objs.size (.dK []):=
 ⟨bu _,beq_eq_false_iff_ne.mpr (bP (aT hb)),[],.nil,Heap.DictOf.new h⟩
theorem Me{P:Program}{w:World}{H:Hp}(h:Heap)(hb:sysModules<h.objs.size):eX P w H (h.push {cls:=.type "dict",data:=.dict #[]}) h.objs.size (.dT []):=
 ⟨bu _,beq_eq_false_iff_ne.mpr (bP (aT hb)),[],.nil,_, #[],0,aE _ rfl,⟨rfl,rfl,rfl⟩,rfl,rfl,wo⟩
def Sj:TE:=fun _ H Q=>∀p,H p=none->Q (.ref p) (upd H p (.dK []))
def Sk:TE:=fun _ H Q=>∀p,H p=none->Q (.ref p) (upd H p (.dT []))
section
variable{X:Cx}{pos:Pos}
theorem qK:PE X (.Dict [] [] pos) Sj:=fun pins s σ H Q I h=>
 wpAny_Dict_empty ⟨.ref s.heap.objs.size,_,I.laid (a:=s.heap.objs.size) (o:=.dK []) (t':=s.toks) (fun _ _ q=>af _ q) (aq _) (EE s.heap I.big),rfl,h _ (I.hok.fresh (aq _))⟩
theorem vc:PE X (.Dict [] [] pos) Sk:=fun pins s σ H Q I h=>
 wpAny_Dict_empty ⟨.ref s.heap.objs.size,_,I.laid (a:=s.heap.objs.size) (o:=.dT []) (t':=s.toks) (fun _ _ q=>af _ q) (aq _) (Me s.heap I.big),rfl,h _ (I.hok.fresh (aq _))⟩
end
def GU:List (TE×TE)->St->Hp->(List (V×V)->Hp->Prop)->Prop
 |[],_,H,Q=>Q [] H
 |(tk,tv)::r,σ,H,Q=>tk σ H fun x H1=>tv σ H1 fun y H2=>GU r σ H2 fun ps H3=>Q ((x,y)::ps) H3
abbrev VV:List (V×V)->List (Value×Value)->Prop:=Paired fun p q=>cQ p.1 q.1/\cQ p.2 q.2
def XC(X:Cx)(pos:Pos)(keys:List (Option Expr))(values:List Expr)(O6:List (TE×TE)):Prop:=
 ∀(pins:List (Addr×Obj)) (s:Shared) (σ:St) (H:Hp) (Q:List (V×V)->Hp->Prop),bJ X pins σ H s->GU O6 σ H Q->
  wpAny (model X.prog X.w) X.A (evalPairs (pairTrees keys values X.env pos)) (fun vs s'=>∃ps H',bJ X pins σ H' s'/\VV ps vs/\Q ps H') X.xe s
theorem O7{X:Cx}{pos:Pos} :XC X pos [] [] []:=fun pins s σ H Q I h=>pairTrees_nil_walk ⟨[],H,I,.nil,h⟩
theorem Mf{X:Cx}{pos:Pos}{k v:Expr}{ks:List (Option Expr)}{vs:List Expr}{tk tv:TE}{O6:List (TE×TE)}(hk:PE X k tk)(hv:PE X v tv)(hr:XC X pos ks vs O6):
  XC X pos (some k::ks) (v::vs) ((tk,tv)::O6):=fun pins s σ H Q I h=>
 pairTrees_cons_walk (dI (hk pins s σ H _ I h) fun u s1 ⟨x,H1,I1,rx,q1⟩=>dI (hv pins s1 σ H1 _ I1 q1) fun w2 s2 ⟨y,H2,I2,ry,q2⟩=>
  dI (hr pins s2 σ H2 _ I2 q2) fun ws s3 ⟨ps,H3,I3,rel,q3⟩=>⟨(x,y)::ps,H3,I3,.cons ⟨rx,ry⟩ rel,q3⟩)
def uh(kvs more:List (Key×V)):List (Key×V):=more.foldl (fun acc kv=>putK acc kv.1 kv.2) kvs
theorem KV.merge:∀{more:List (Key×V)} {rs:List (Key×Value)} {kvs:List (Key×V)} {vs:List (Key×Value)},KV more rs->KV kvs vs->KV (uh kvs more) (merged vs rs):=by
 intro more rs kvs vs r;unfold KV at r;induction r generalizing kvs vs with
 |nil=>intro q;exact q
 | @cons p q ps qs h t ih=>
  intro r0;have e:KV (putK kvs p.1 p.2) (stored vs q.1 q.2):=by
   have:=r0.put p.1 h.2;rw[<- h.1];exact this
  exact ih e
theorem tM:∀(more kvs:List (Key×V)),(uh kvs more).length<=kvs.length+more.length
 |[],kvs=>by show kvs.length<=kvs.length+0;omega
 |p::r,kvs=>by
  have h1:=tM r (putK kvs p.1 p.2);have h2:=fN kvs p.1 p.2;show(uh (putK kvs p.1 p.2) r).length<=_;rw[az];omega
theorem zo{P:Program}{w:World} :∀{kvs:List (Key×V)} {ws:List (Value×Value)},VV (kvs.map fun kv=>(kV kv.1,kv.2)) ws->∃rs,Carries (cN P w) ws rs/\KV kvs rs
 |[],_,r=>by rw[qj]at r;cases r;exact⟨[],True.intro,.nil⟩
 |p::kvs,_,r=>by
  rw[aV]at r;cases r with
  | @cons a b as bs h t=>
   obtain⟨rs,c,q⟩:=zo (P:=P) (w:=w) t;obtain⟨b1,b2⟩:=b;exact⟨(p.1,b2)::rs,⟨qH h.1,rfl,c⟩,.cons ⟨rfl,h.2⟩ q⟩
def Vz(O6:List (TE×TE)):TE:=fun σ H Q=>∀p,H p=none->GU O6 σ (upd H p (.dK [])) fun ps H2=>H2 p=some (.dK [])/\∃kvs:List (Key×V),ps=kvs.map (fun kv=>(kV kv.1,kv.2))/\kvs.length<=15/\Q (.ref p) (upd H2 p (.dK (uh [] kvs)))
theorem O8{X:Cx}{pos:Pos}{keys:List (Option Expr)}{values:List Expr}{O6:List (TE×TE)}(h:XC X pos keys values O6)(hall:keys.all (·.isSome)=true)(hl:keys.length=values.length)(h0:keys≠[])
  (UQ:keys.length<=15):PE X (.Dict keys values pos) (Vz O6):=by
 intro pins s σ H Q I q;have hn:=I.hok.fresh (aq s.heap.objs.size);have I1:=I.laid (a:=s.heap.objs.size) (o:=.dK []) (h':=s.heap.push {cls:=.type "dict",data:=.dict #[]}) (t':=s.toks) (fun _ _ q=>af _ q) (aq _) (EE s.heap I.big);refine wpAny_Dict_walk (knd:=cN X.prog X.w) hall hl h0 UQ (dI (h pins _ σ _ _ I1 (q _ hn)) fun ws s2 eT=>?_);obtain⟨ps,H2,I2,rel,e,kvs,ep,lk,q2⟩:=eT;subst ep;obtain⟨rs,c,rk⟩:=zo (P:=X.prog) (w:=X.w) rel;obtain⟨z,hd,vs0,r0,dd⟩:=EC I2.hok e;cases r0;refine⟨rs,c,dd,fun h' Bf hs=>⟨.ref s.heap.objs.size,_,?_,rfl,q2⟩⟩;have hz:(uh [] kvs).length<=sizeLine:=by
  have h1:=tM kvs [];rw[dj]at h1;rw[jN];omega
 have he:∃q,h'.get? s.heap.objs.size=some q:=let ⟨q,_,_,hq,_⟩:=Bf;⟨q,hq⟩;exact nE I2 (by rw[e];exact True.intro) hs he (zk hz hd (rk.merge .nil) Bf)
structure M1 (X:Cx) (o:Expr) (m:Str) (apos:Pos) (e:Expr) (cpos:Pos):Prop where
 base:attributeBase o m X.env (eval o X.env)=eval o X.env
 few:((backTo cpos (starEach [e] X.env)).all (fun x=> !x.1)&&(backToKw cpos (keywordEach [] X.env)).all (fun x=>x.1.isSome)
  &&decide (([e]:List Expr).length+([]:List Keyword).length+(if([]:List Keyword).isEmpty then 0 else 1)<30))=true
 line:(apos.endLine==cpos.line)=true
 trees:backTo cpos (starEach [e] X.env)=[(false,eval e X.env)]
structure M2 (X:Cx) (o:Expr) (m:Str) (apos:Pos) (e f:Expr) (cpos:Pos):Prop where
 base:attributeBase o m X.env (eval o X.env)=eval o X.env
 few:((backTo cpos (starEach [e,f] X.env)).all (fun x=> !x.1)&&(backToKw cpos (keywordEach [] X.env)).all (fun x=>x.1.isSome)
  &&decide (([e,f]:List Expr).length+([]:List Keyword).length+(if([]:List Keyword).isEmpty then 0 else 1)<30))=true
 line:(apos.endLine==cpos.line)=true
 trees:backTo cpos (starEach [e,f] X.env)=[(false,eval e X.env),(false,eval f X.env)]
def Sl(H:Hp)(a:Addr):Prop:=(∃kvs,Rd H a (.dK kvs))\/∃kvs,Rd H a (.dT kvs)
theorem wK{X:Cx}{pins:List (Addr×Obj)}{σ:St}{H:Hp}{s:Shared}{a:Addr}(I:bJ X pins σ H s)(d:Sl H a):
  s.TypeIs (.ref a) "dict"/\(∀b,Value.ref a=.ref b->∃ob,s.heap.get? b=some ob/\ob.dict=none)/\(a==sysModules)=false:=by
 rcases d with⟨kvs,e⟩|⟨kvs,e⟩
 ·obtain⟨_,hd,vs,_,dd⟩:=qI I.hok e;refine⟨dd.typeIs,fun b q=>?_,hd⟩;cases q;obtain⟨ob,_,_,h1,h2,_⟩:=dd;exact⟨ob,h1,h2.2.1⟩
 ·obtain⟨_,hd,xs,_,dd⟩:=xD I.hok e;refine⟨dd.typeIs,fun b q=>?_,hd⟩;cases q;obtain⟨ob,_,_,h1,h2,_⟩:=dd;exact⟨ob,h1,h2.2.1⟩
section
variable{X:Cx}{pins:List (Addr×Obj)}{σ:St}{H:Hp}{s:Shared}{a:Addr}{y d:V}{u r:Value}{o:Option V}{A:Around}{E:Value->Shared->Prop}
theorem Sm{Q:Value->Shared->Prop}(hu:A.units+1<cLine)(I:bJ X pins σ H s)(g:fO H a y o)(ry:cQ y u)(h:∀w' s',bJ X pins σ H s'->cQ (o.getD .dY) w'->Q w' s'):
  wpAny (model X.prog X.w) A (call (.builtin "dict.get") [.ref a,u]) Q E s:=by
 rcases g with⟨kvs,k,e,ey,l⟩|⟨kvs,k,b,e,ey,eb,l⟩
 ·subst ey;obtain⟨z,hd,vs,rel,dd⟩:=qI I.hok e;refine jR gJ dd.typeIs nS (PySem.F.args_dict_get_2 _ _) (meets_dict_get (cN X.prog X.w) a (qH ry) hd) ⟨_,dd.mapOf,h _ _ (I.tok _) ?_⟩;rw[l];exact(rel.val k).getD rfl
 ·subst ey;cases (show u=Value.ref b from ry);obtain⟨z,hd,xs,rel,dd⟩:=xD I.hok e;refine jR gJ dd.typeIs nS (PySem.F.args_dict_get_2 _ _) (meetsH_dict_get (tupleKind (cN X.prog X.w)) a b hd) ⟨gW hu,k,xs,qJ I.hok eb,dd,h _ _ (I.tok _) ?_⟩;rw[l];exact(rel.val k).getD rfl
theorem Sn{Q:Value->Shared->Prop}(hu:A.units+1<cLine)(I:bJ X pins σ H s)(g:fO H a y o)(ry:cQ y u)(rd:cQ d r)(h:∀w' s',bJ X pins σ H s'->cQ (o.getD d) w'->Q w' s'):
  wpAny (model X.prog X.w) A (call (.builtin "dict.get") [.ref a,u,r]) Q E s:=by
 rcases g with⟨kvs,k,e,ey,l⟩|⟨kvs,k,b,e,ey,eb,l⟩
 ·subst ey;obtain⟨z,hd,vs,rel,dd⟩:=qI I.hok e;refine jR gJ dd.typeIs nS (PySem.F.args_dict_get_3 _ _ _) (meets_dict_get_default (cN X.prog X.w) a (qH ry) hd r) ⟨_,dd.mapOf,h _ _ (I.tok _) ?_⟩;rw[l];exact(rel.val k).getD rd
 ·subst ey;cases (show u=Value.ref b from ry);obtain⟨z,hd,xs,rel,dd⟩:=xD I.hok e;refine jR gJ dd.typeIs nS (PySem.F.args_dict_get_3 _ _ _) (meetsH_dict_get_default (tupleKind (cN X.prog X.w)) a b hd r) ⟨gW hu,k,xs,qJ I.hok eb,dd,h _ _ (I.tok _) ?_⟩;rw[l];exact(rel.val k).getD rd
end
def Mg(td ty:TE):TE:=fun σ H Q=>td σ H fun x H1=>∃a,x=.ref a/\Sl H1 a/\ty σ H1 fun y H2=>∃o,fO H2 a y o/\Q (o.getD .dY) H2
def So(td ty tx:TE):TE:=fun σ H Q=>td σ H fun x H1=>∃a,x=.ref a/\Sl H1 a/\ty σ H1 fun y H2=>tx σ H2 fun z H3=>∃o,fO H3 a y o/\Q (o.getD z) H3
def Sq(td ty:TE):TE:=fun σ H Q=>td σ H fun x H1=>∃a,x=.ref a/\Sl H1 a/\ty σ H1 fun y H2=>∃kvs k v,H2 a=some (.dK kvs)/\y=kV k/\dc kvs k=some v/\Q v (upd H2 a (.dK (iM kvs k)))
def Ss(td ty tx:TE):TE:=fun σ H Q=>td σ H fun x H1=>∃a,x=.ref a/\Sl H1 a/\ty σ H1 fun y H2=>tx σ H2 fun z H3=>∃kvs k,H3 a=some (.dK kvs)/\y=kV k/\
 (∀v,dc kvs k=some v->Q v (upd H3 a (.dK (iM kvs k))))/\(dc kvs k=none->Q z H3)
section
variable{X:Cx}{o e f:Expr}{apos cpos:Pos}{td ty tx:TE}
theorem EF(hu:X.A.units+1<cLine)(ho:PE X o td)(he:PE X e ty)(m:M1 X o "get" apos e cpos):PE X (.Call (.Attribute o "get" apos) [e] [] cpos) (Mg td ty):=by
 intro pins s σ H Q I h;refine gw m.base m.few m.line fR gJ PySem.F.type_dict_get (dI (ho pins s σ H _ I h) fun u s1 eT=>?_);obtain⟨x,H1,I1,rx,a,ex,d,q1⟩:=eT;subst ex;obtain rfl:u=Value.ref a:=rx;obtain⟨t1,t2,_⟩:=wK I1 d;refine⟨t1,t2,?_⟩;rw[m.trees];refine fu rfl (f7 (dR (dI (he pins s1 σ H1 _ I1 q1) fun iv s2 ⟨y,H2,I2,ry,ov,g,q2⟩=>iP ?_)));exact Sm hu I2 g ry fun w' s3 I3 rw'=>⟨_,H2,I3,rw',q2⟩
theorem EG(hu:X.A.units+1<cLine)(ho:PE X o td)(he:PE X e ty)(hf:PE X f tx)(m:M2 X o "get" apos e f cpos):PE X (.Call (.Attribute o "get" apos) [e,f] [] cpos) (So td ty tx):=by
 intro pins s σ H Q I h;refine gw m.base m.few m.line fR gJ PySem.F.type_dict_get (dI (ho pins s σ H _ I h) fun u s1 eT=>?_);obtain⟨x,H1,I1,rx,a,ex,d,q1⟩:=eT;subst ex;obtain rfl:u=Value.ref a:=rx;obtain⟨t1,t2,_⟩:=wK I1 d;refine⟨t1,t2,?_⟩;rw[m.trees];refine fu rfl (f7 (dR (dI (he pins s1 σ H1 _ I1 q1) fun iv s2 ⟨y,H2,I2,ry,q2⟩=>
  dR (dI (hf pins s2 σ H2 _ I2 q2) fun fv s3 ⟨z,H3,I3,rz,ov,g,q3⟩=>iP ?_))))
 exact Sn hu I3 g ry rz fun w' s4 I4 rw'=>⟨_,H3,I4,rw',q3⟩
theorem Mh(ho:PE X o td)(he:PE X e ty)(m:M1 X o "pop" apos e cpos):PE X (.Call (.Attribute o "pop" apos) [e] [] cpos) (Sq td ty):=by
 intro pins s σ H Q I h;refine gw m.base m.few m.line fR o6 PySem.F.type_dict_pop (dI (ho pins s σ H _ I h) fun u s1 eT=>?_);obtain⟨x,H1,I1,rx,a,ex,d,q1⟩:=eT;subst ex;obtain rfl:u=Value.ref a:=rx;obtain⟨t1,t2,_⟩:=wK I1 d;refine⟨t1,t2,?_⟩;rw[m.trees];refine fu rfl (f7 (dR (dI (he pins s1 σ H1 _ I1 q1) fun iv s2 ⟨y,H2,I2,ry,kvs,k,v,ea,ey,l,q2⟩=>iP ?_)));subst ey;exact Ra I2 ea ry l (.inl rfl) fun w' s3 I3 rw'=>⟨v,_,I3,rw',q2⟩
theorem Mi(ho:PE X o td)(he:PE X e ty)(hf:PE X f tx)(m:M2 X o "pop" apos e f cpos):PE X (.Call (.Attribute o "pop" apos) [e,f] [] cpos) (Ss td ty tx):=by
 intro pins s σ H Q I h;refine gw m.base m.few m.line fR o6 PySem.F.type_dict_pop (dI (ho pins s σ H _ I h) fun u s1 eT=>?_);obtain⟨x,H1,I1,rx,a,ex,d,q1⟩:=eT;subst ex;obtain rfl:u=Value.ref a:=rx;obtain⟨t1,t2,_⟩:=wK I1 d;refine⟨t1,t2,?_⟩;rw[m.trees];refine fu rfl (f7 (dR (dI (he pins s1 σ H1 _ I1 q1) fun iv s2 ⟨y,H2,I2,ry,q2⟩=>
  dR (dI (hf pins s2 σ H2 _ I2 q2) fun fv s3 ⟨z,H3,I3,rz,kvs,k,ea,ey,q3,q4⟩=>iP ?_))))
 subst ey;cases l:dc kvs k with
 |some v=>exact Ra I3 ea ry l (.inr ⟨fv,rfl⟩) fun w' s4 I4 rw'=>⟨v,_,I4,rw',q3 v l⟩
 |none=>exact Sg I3 ea ry l fun s4 I4=>⟨z,H3,I4,rz,q4 l⟩
end
section
variable{X:Cx}{pins:List (Addr×Obj)}{σ:St}{H:Hp}{s:Shared}{a:Addr}{kvs:List (Key×V)}{A:Around}{E:Value->Shared->Prop}
theorem Mj{Q:Value->Shared->Prop}(I:bJ X pins σ H s)(e:Rd H a (.dK kvs))(h:∀p s',H p=none->bJ X pins σ (upd H p (.dK kvs)) s'->Q (.ref p) s'):wpAny (model X.prog X.w) A (call (.type "dict") [.ref a]) Q E s:=by
 obtain⟨z,hd,vs,rel,dd⟩:=qI I.hok e;refine kt_call_dict hd dd (by rw[<- rel.length];exact z) fun h' Bf hs=>?_;refine h _ _ (I.hok.fresh (aq _)) (I.laid (a:=s.heap.objs.size) (o:=.dK kvs) (t':=s.toks) (fun b q hq=>?_) (aq _) (zk z (beq_eq_false_iff_ne.mpr (bP (aT I.big))) rel Bf));exact(hs.2 b (aT (aF hq))).trans (af _ hq)
end
theorem zq:bootBuiltins "reversed"=some (.type "reversed"):=by decide +kernel
section
variable{X:Cx}{pins:List (Addr×Obj)}{σ:St}{H:Hp}{s:Shared}{h':Heap}
theorem bJ.O9{t':Nat}{ch:List Addr}(I:bJ X pins σ H s)(k:∀b o,b∉ch->s.heap.get? b=some o->h'.get? b=some o)(hf:∀b∈ch,yh X pins H b):bJ X pins σ H {s with heap:=h',toks:=t'}:=by
 have QV:∀b u,H b=some u->b∉ch:=fun b u e z=>by
  have q:=(hf b z).1;rw[q]at e;cases e
 refine I.step (g':=s.gens) (d':=s.drawn) (ch:=ch) (fun b hb=>⟨(hf b hb).2.2.2.1,(hf b hb).2.1,(hf b hb).2.2.2.2.1,(hf b hb).2.2.2.2.2⟩) (fun b o _ _ hc e _=>k b o hc e) (fun b o _ _ hc e _=>⟨o.slots,k b o hc e⟩)
  (fun _ _ _ _ n=>n) (fun b o hc e=>⟨o,k b o hc e⟩) (fun _ _ e=>e) (fun _ _ _ e=>e) (fun b ps e=>⟨#[],by rw[e];simp⟩) (fun m hm=>?_) (fun b u e=>?_) I.bare
 ·obtain⟨o,es,ep,ho,r⟩:=hm;exact⟨o,es,ep,k _ o (fun z=>(hf _ z).2.1 rfl) ho,r⟩
 ·refine(I.hok b u e).stay (fun c v hc q=>k c v ?_ q) (fun _ q=>q) fun _ _ q=>q;rcases hc with z|z
  ·rw[z];exact QV b u e
  ·exact QV c _ z
theorem bJ.oG{t':Nat}{ch:List Addr}{T:Addr}{ob:HO}(I:bJ X pins σ H s)(k:∀b o,b∉ch->s.heap.get? b=some o->h'.get? b=some o)(hf:∀b∈ch,yh X pins H b)(hT:s.heap.objs.size<=T)
  (new:eX X.prog X.w (upd H T ob) h' T ob):bJ X pins σ (upd H T ob) {s with heap:=h',toks:=t'}:=by
 have hn:H T=none:=I.hok.fresh hT;have QV:∀b u,H b=some u->b∉ch:=fun b u e z=>by
  have q:=(hf b z).1;rw[q]at e;cases e
 refine I.step (g':=s.gens) (d':=s.drawn) (ch:=ch) (fun b hb=>⟨(hf b hb).2.2.2.1,(hf b hb).2.1,(hf b hb).2.2.2.2.1,(hf b hb).2.2.2.2.2⟩) (fun b o _ _ hc e _=>k b o hc e) (fun b o _ _ hc e _=>⟨o.slots,k b o hc e⟩)
  (fun b o _ e n=>?_) (fun b o hc e=>⟨o,k b o hc e⟩) (fun b xs e=>?_) (fun b o u e=>?_) (fun b ps e=>⟨#[],?_⟩) (fun m hm=>?_) (fun b u e=>?_) I.bare
 ·rw[aI (aT (br (aF e) hT))];exact n
 ·rw[aI (aS e hn)];exact e
 ·rw[aI (aS e hn)];exact e
 ·rw[aI (aS e hn),e];simp
 ·obtain⟨o,es,ep,ho,r⟩:=hm;exact⟨o,es,ep,k _ o (fun z=>(hf _ z).2.1 rfl) ho,r⟩
 ·by_cases hb:b=T
  ·subst hb;rw[aj]at e;cases e;exact new
  ·rw[aI hb]at e;refine(I.hok b u e).stay (fun c v hc q=>k c v ?_ q) (fun c q=>by rw[aI (aS q hn)];exact q) fun c xs q=>by rw[aI (aS q hn)];exact q
   rcases hc with z|z
   ·rw[z];exact QV b u e
   ·exact QV c _ z
theorem bJ.lock{d:Addr}{u:HO}(I:bJ X pins σ H s)(h:H d=some u)(mu:OP (some u)):∃od,bJ X pins σ (upd H d (.jy od u)) s:=by
 have x:=I.hok d u h;have ex:∃od,s.heap.get? d=some od:=by
  cases u with
  |lst xs=>obtain⟨_,_,_,_,e⟩:=x;exact⟨_,e⟩
  |dK kvs=>obtain⟨_,_,_,_,o,_,_,e,_⟩:=x;exact⟨o,e⟩
  |dT kvs=>obtain⟨_,_,_,_,o,_,_,e,_⟩:=x;exact⟨o,e⟩
  |set S n=>obtain⟨o,_,_,_,e,_⟩:=x;exact⟨o,e⟩
  |ins C dx fs=>obtain⟨_,_,_,e,_⟩:=x;exact⟨_,e⟩
  |ext φ=>obtain⟨_,⟨_,e⟩,_⟩:=x;exact⟨_,e⟩
  |_=>exact False.elim mu
 obtain⟨od,e⟩:=ex;have new:eX X.prog X.w (upd H d (.jy od u)) s.heap d (.jy od u):=by
  refine⟨e,x.stay (fun b v _ q=>q) (fun b q=>?_) fun b xs q=>?_⟩
  ·rw[aI (fun z=>by rw[z,h]at q;cases q;exact mu)];exact q
  ·rw[aI (fun z=>by rw[z,h]at q;cases q;exact mu)];exact q
 exact⟨od,I.write (x:=d) (e:=d) (t':=s.toks) (h':=s.heap) (by rw[h];exact mu) (.inl rfl) (fun b v _ q=>q) ⟨od,e⟩ new⟩
theorem bJ.EH{d:Addr}{u:HO}(I:bJ X pins σ H s)(h:H d=some u)(mu:OP (some u)):∀o' u',X.RH d≠some (.jy o' u'):=fun o' u' e=>by
 have q:=I.base.uO d o' u' e;rw[h]at q;cases q;exact mu
theorem bJ.unlock{d:Addr}{od:Obj}{u:HO}(I:bJ X pins σ H s)(h:H d=some (.jy od u))(hn:∀o' u',X.RH d≠some (.jy o' u')):bJ X pins σ (upd H d u) s:=by
 have UR:∀b o,H b=some o->(∀o' u',o≠.jy o' u')->b≠d:=fun b o e hne z=>by
  rw[z,h]at e;cases e;exact hne _ _ rfl
 have neN:∀b,H b=none->b≠d:=fun b e z=>by rw[z,h]at e;cases e
 refine⟨I.ok,I.os,I.bare,⟨I.base.keep,I.base.slot,fun b o e n hx=>?_,I.base.there,fun b xs e=>?_,fun b o x e=>?_,fun b ps e=>?_⟩,I.loc,I.cell,?_,fun x c e=>?_,fun p hp=>?_,fun b o e=>?_,I.len⟩
 ·rw[aI (neN b (I.base.free b o e n hx))];exact I.base.free b o e n hx
 ·have q:=I.base.tups b xs e;rw[aI (UR b _ q (fun _ _ z=>nomatch z))];exact q
 ·have q:=I.base.uO b o x e;rw[aI (fun z=>by rw[z]at e;exact hn _ _ e)];exact q
 ·obtain⟨m,q⟩:=I.base.yg b ps e;exact⟨m,by rw[aI (UR b _ q (fun _ _ z=>nomatch z))];exact q⟩
 ·rw[aI (neN _ I.free)];exact I.free
 ·rw[aI (neN c (I.jh x c e))];exact I.jh x c e
 ·obtain⟨e,n,r⟩:=I.pin p hp;exact⟨e,by rw[aI (neN _ n)];exact n,r⟩
 ·by_cases hb:b=d
  ·rw[hb,aj]at e;cases e;rw[hb];obtain⟨_,x⟩:=I.hok d _ h;exact x.stay (fun c v _ q=>q) (fun c q=>by rw[aI (UR c _ q (fun _ _ z=>nomatch z))];exact q) fun c xs q=>by rw[aI (UR c _ q (fun _ _ z=>nomatch z))];exact q
  ·rw[aI hb]at e;exact(I.hok b o e).stay (fun c v _ q=>q) (fun c q=>by rw[aI (UR c _ q (fun _ _ z=>nomatch z))];exact q) fun c xs q=>by rw[aI (UR c _ q (fun _ _ z=>nomatch z))];exact q
end
def VA(t:TS):TS:=fun D σ H=>∃d u,H d=some u/\OP (some u)/\∀od,t ⟨fun σ' H'=>H' d=some (.jy od u)/\D.nx σ' (upd H' d u),fun v H'=>H' d=some (.jy od u)/\D.rt v (upd H' d u),fun σ' H'=>H' d=some (.jy od u)/\D.bk σ' (upd H' d u),fun σ' H'=>H' d=some (.jy od u)/\D.ct σ' (upd H' d u)⟩ σ (upd H d (.jy od u))
def Ml(t:TE):TE:=fun σ H Q=>∃d u,H d=some u/\OP (some u)/\∀od,t σ (upd H d (.jy od u)) fun v H'=>H' d=some (.jy od u)/\Q v (upd H' d u)
section
variable{X:Cx}
theorem Pa{st:Stmt}{t:TS}(h:PS X st t):PS X st (VA t):=by
 intro pins s σ H D I hw;obtain⟨d,u,hd,mu,hw⟩:=hw;obtain⟨od,I1⟩:=I.lock hd mu;refine dI (h pins s σ _ _ I1 (hw od)) fun f s1 q=>?_;cases f with
 |next=>obtain⟨σ',H',I2,e,q⟩:=q;exact⟨σ',_,I2.unlock e (I.EH hd mu),q⟩
 |brk=>obtain⟨σ',H',I2,e,q⟩:=q;exact⟨σ',_,I2.unlock e (I.EH hd mu),q⟩
 |cont=>obtain⟨σ',H',I2,e,q⟩:=q;exact⟨σ',_,I2.unlock e (I.EH hd mu),q⟩
 |ret v=>obtain⟨x,σ',H',I2,r,e,q⟩:=q;exact⟨x,σ',_,I2.unlock e (I.EH hd mu),r,q⟩
theorem Pb{e:Expr}{t:TE}(h:PE X e t):PE X e (Ml t):=by
 intro pins s σ H Q I hw;obtain⟨d,u,hd,mu,hw⟩:=hw;obtain⟨od,I1⟩:=I.lock hd mu;refine dI (h pins s σ _ _ I1 (hw od)) fun v s1 eT=>?_;obtain⟨x,H1,I2,r,e2,q⟩:=eT;exact⟨x,_,I2.unlock e2 (I.EH hd mu),r,q⟩
theorem wL{tg:Expr}{pins:List (Addr×Obj)}{σ:St}{H:Hp}{s:Shared}{R:It->Hp->Prop}{J:It}{tn:Nat->Heap->Prop}{tk:Nat}(I:bJ X pins σ H s)(o:Obj)
  (T:yw X.prog X.w X.K tg J [s.heap.objs.size] s.heap.objs.size tn) (st:tn 0 (s.heap.push o)) (q:R J H):Vh X pins σ tg R (.ref s.heap.objs.size) {s with heap:=s.heap.push o,toks:=tk}:=by
 refine⟨s.heap.objs.size,[s.heap.objs.size],tn,J,H,rfl,I.kept fun b ob e=>af _ e,T,st,fun b hb=>?_,q⟩;have e:b=s.heap.objs.size:=by simpa using hb
 subst e;exact I.GC (aq _) (I.hok.fresh (aq _))
end
def VB(K:PySem.W.Frag)(a:Addr)(n:Nat):It:=
 ⟨fun i H=>i<n/\∃(xs:List V) (x:V),cI K H a xs/\xs[n-1-i]? =some x,fun i H x H'=>H'=H/\∀xs,cI K H a xs->xs[n-1-i]? =some x,fun i _=>n<=i⟩
theorem Mm{P:Program}{w:World}{K:PySem.W.Frag}{tg:Expr}(a it:Addr)(n:Nat):yw P w K tg (VB K a n) [it] it (fun i h=>i<=n/\h.IsRevIter it a ((n:Int)-1-(i:Nat))) where
 mem:=by simp
 obj:=fun i h st b hb=>by
  have e:b=it:=by simpa using hb
  subst e;obtain⟨_,o,e,c,d⟩:=st;exact⟨o,e,fun v z=>by rw[d]at z;cases z⟩
 keep:=fun i h h' st k=>⟨st.1,st.2.at fun o e=>k it (by simp) o e⟩
 item:=by
  intro X hP hw hK hc i pins s σ H E I hf st hg;subst hP hw hK;obtain⟨hin,xs,x,hq,hx⟩:=hg;obtain⟨its,rv,p,hz⟩:=I.list hq;obtain⟨u,hu,ru⟩:=rv.get hx;obtain⟨f0,f1,f2,f3,f4,f5⟩:=hf it (by simp);obtain⟨_,hit⟩:=st;have e1:(n:Int)-1-((i:Nat):Int)=((n-1-i:Nat):Int):=by omega
  rw[e1]at hit;refine wpAny_pyNext_rev_item hit p.isList (x:=u) (by simpa using hu) fun h' st' sb=>?_;have e2:((n-1-i:Nat):Int)-1=(n:Int)-1-((i+1:Nat):Int):=by omega
  rw[e2]at st';have I1:bJ X pins σ H {s with heap:=h'}:=I.turned (t':=s.toks) (fun b o hb e=>(sb.2 b hb).trans e) f0 f1 f3 f4 f5;obtain⟨o,e,c,d⟩:=id st';exact⟨u,rfl,Em (s:={s with heap:=h'}) e c d (by decide) ⟨x,H,I1,ru,⟨rfl,fun ys hy=>by rw[I.qy hy hq];exact hx⟩,⟨hin,st'⟩,fun b hb=>(hf b hb).1⟩⟩
 done:=by
  intro X hP hw hK hc i pins s σ H E I hf st hg;subst hP hw hK;obtain⟨f0,f1,f2,f3,f4,f5⟩:=hf it (by simp);obtain⟨hin,hit⟩:=st;have hge:n<=i:=hg;have e1:(n:Int)-1-((i:Nat):Int)= -1:=by omega
  rw[e1]at hit;exact wpAny_pyNext_rev_end (I.ok.hd hc) hit fun h' eb=>⟨rfl,I.turned (t':=s.toks) (fun b o hb e=>eb b o hb e) f0 f1 f3 f4 f5⟩
 self:=fun A i s Q E st h=>wpAny_pyIter_revIter st.2 h
def YK(K:PySem.W.Frag)(ta:TA):TI:=fun σ H R=>ta σ H fun vs H1=>∃(a:Addr) (xs:List V),vs=[.ref a]/\cI K H1 a xs/\R (VB K a xs.length) H1
section
variable{X:Cx}{tg:Expr}
theorem EI{e:Expr}{ta:TA}{p pos:Pos}(hg:Gl X "reversed")(hm:X.mg "reversed"=none)(ha:PA X [e] ta)(hs:starEach [e] X.env=[(false,eval e X.env)]:=by rfl):PI X tg (.Call (.Name "reversed" p) [e] [] pos) (YK X.K ta):=by
 intro pins s σ H R I h;refine Call_ (qw I hg hm zq (gj (dI (ha pos pins s σ H _ I h) fun us s1 eT=>?_) hs rfl));obtain⟨vs,H1,I1,r1,q1⟩:=eT;obtain⟨a,xs,e,hq,q⟩:=q1;subst e;cases r1 with
 |cons r rr=>
  cases rr;cases r;obtain⟨its,rv,p',hz⟩:=I1.list hq;have hl:=rv.length;have e1:((its.toArray.size:Nat):Int)-1=(xs.length:Int)-1-((0:Nat):Int):=by simp only[bG];omega
  refine call_reversed_list p'.isList (wpAny_pyIter_revIter (l:=a) (i:=((its.toArray.size:Nat):Int)-1) ⟨_,aE _ rfl,rfl,rfl⟩ ?_);refine wL (tk:=s1.toks) I1 _ (Mm a _ xs.length) ⟨bu _,?_⟩ q;rw[<- e1];exact⟨_,aE _ rfl,rfl,rfl⟩
end
def VC(x:Str):It:=⟨fun i _=>i<x.cps.size,fun i H v H'=>H'=H/\∃c,x.cps[i]? =some c/\v=.str ⟨#[c]⟩,fun i _=>x.cps.size<=i⟩
theorem EJ{P:Program}{w:World}{K:PySem.W.Frag}{tg:Expr}(it:Addr)(x:Str)(t:Tok)(ty:String)(hty:ty="str_ascii_iterator"\/ty="str_iterator"):
  yw P w K tg (VC x) [it] it (fun i h=>h.IsStrIter it ty x t i) where
 mem:=by simp
 obj:=fun i h st b hb=>by
  have e:b=it:=by simpa using hb
  subst e;obtain⟨o,e,c,d⟩:=st;exact⟨o,e,fun v z=>by rw[d]at z;cases z⟩
 keep:=fun i h h' st k=>let ⟨o,ho,r⟩:=st;⟨o,k it (by simp) o ho,r⟩
 item:=by
  intro X hP hw hK hc i pins s σ H E I hf st hg;subst hP hw hK;obtain⟨f0,f1,f2,f3,f4,f5⟩:=hf it (by simp);have W:Walks X.prog X.w X.A it [it] [it] x.cps.size (SignAt x) (fun i h=>h.IsStrIter it ty x t i):=by
   rcases hty with e|e
   ·rw[e];exact Walks.strAscii (I.ok.hd hc) it x t
   ·rw[e];exact Walks.strWide (I.ok.hd hc) it x t
  have hno:["enumerate","zip","dict_itemiterator","dict_reverseitemiterator","odict_iterator","itertools.zip_longest","itertools.pairwise"].contains ty=false:=by
   rcases hty with e|e
   ·rw[e];decide
   ·rw[e];decide
  refine W.item i s _ _ hg st fun v h' tk hv st' kk=>?_;obtain⟨c,u,hcx,rfl⟩:=hv;have I1:bJ X pins σ H {s with heap:=h',toks:=tk}:=I.turned (fun b o hb e=>kk b o (by simpa using hb) e) f0 f1 f3 f4 f5;obtain⟨oi,e,cc,dd⟩:=id st';exact⟨_,rfl,Em (s:={s with heap:=h',toks:=tk}) e cc dd hno ⟨.str ⟨#[c]⟩,H,I1,⟨u,rfl⟩,⟨rfl,c,hcx,rfl⟩,st',fun b hb=>(hf b hb).1⟩⟩
 done:=by
  intro X hP hw hK hc i pins s σ H E I hf st hg;subst hP hw hK;obtain⟨f0,f1,f2,f3,f4,f5⟩:=hf it (by simp);have hx:x.cps[i]? =none:=jx hg;rcases hty with e|e
  ·rw[e]at st;exact wpAny_pyNext_ascii_end (I.ok.hd hc) st hx fun h' eb=>⟨rfl,I.turned (t':=s.toks) (fun b o hb e=>eb b o hb e) f0 f1 f3 f4 f5⟩
  ·rw[e]at st;exact wpAny_pyNext_wide_end (I.ok.hd hc) st hx fun h' eb=>⟨rfl,I.turned (t':=s.toks) (fun b o hb e=>eb b o hb e) f0 f1 f3 f4 f5⟩
 self:=fun A i s Q E st h=>by
  rcases hty with e|e
  ·rw[e]at st;exact wpAny_pyIter_striter_ascii st h
  ·rw[e]at st;exact wpAny_pyIter_striter_wide st h
def YL(te:TE):TI:=fun σ H R=>te σ H fun v H1=>∃x,v=.str x/\R (VC x) H1
theorem Su{X:Cx}{tg e:Expr}{te:TE}(he:PE X e te):PI X tg e (YL te):=by
 intro pins s σ H R I h;refine dI (he pins s σ H _ I h) fun v s1 eT=>?_;obtain⟨y,H1,I1,r1,x,ex,q⟩:=eT;subst ex;obtain⟨t,rfl⟩:=r1;cases ha:x.cps.all (· <128)
 ·exact wpAny_pyIter_wide ha (wL (tk:=s1.toks) I1 _ (EJ _ x t "str_iterator" (.inr rfl)) ⟨_,aE _ rfl,rfl,rfl⟩ q)
 ·exact wpAny_pyIter_ascii ha (wL (tk:=s1.toks) I1 _ (EJ _ x t "str_ascii_iterator" (.inl rfl)) ⟨_,aE _ rfl,rfl,rfl⟩ q)
section
variable{prog:Program}{w:World}{A:Around}{E:Value->Shared->Prop}{s:Shared}
theorem wM{d:Addr}{o:Obj}{es:Array DictEntry}{ep:Nat}{Q:Value->Shared->Prop}(hd:(d==sysModules)=false)(ho:s.heap.get? d=some o)(hc:o.ExactDict)(hdat:o.data=.dict es ep)
  (hQ:Q (.ref s.heap.objs.size) {s with heap:=s.heap.push {cls:=.type "dict_keyiterator",data:=.fields #[.ref d,.int 0 0,.int es.size 0,.int ep 0]}}):
  wpAny (model prog w) A (pyIter (.ref d)) Q E s:=by
 have hT:s.TypeIs (.ref d) "dict":=⟨o,ho,hc.1⟩
 refine qf hT F.slot_dict_iter (bU F.slot_dict_iter hT F.entry_dict_iter ?_ (F.args_dict_iter_1 _));unfold Builtin.«dict.__iter__»;refine aa ?_;unfold Builtin.Dict.dictSlotNone;refine aa (Gx hT ?_);show wpAny _ _ (pure (Value.ref d)) _ _ s;refine ak ?_;show wpAny _ _ (Builtin.Dict.showsAll d >>=_) _ _ s;unfold Builtin.Dict.showsAll;rw[ao (by rw[hd];exact aU)];refine aa (ak ?_);refine aa (dH ho hdat ?_);refine aa (iK ho hdat ?_);refine aa (cG (ak ⟨_,rfl,"dict_keyiterator",_,⟨_,aE _ rfl,rfl⟩,F.slot_dict_keyiterator_next.lookup,?_⟩));simpa[rawInt]using hQ
theorem tN{it d:Addr}{i n ep:Nat}{od:Obj}{es:Array DictEntry}{en:DictEntry}{Q:Option Value->Shared->Prop}(hit:s.heap.IsKeyIter it d i n ep)(hod:s.heap.get? d=some od)(VD:od.data=.dict es ep)
  (hsz:es.size=n) (hx:es[i]? =some en) (hQ:∀h',h'.IsKeyIter it d (i+1) n ep->Heap.SameBut it s.heap h'->Q (some en.key) {s with heap:=h'}):wpAny (model prog w) A (pyNext (.ref it)) Q E s:=by
 obtain⟨o,ho,hc,hd⟩:=id hit;unfold pyNext;refine aa (gM (bZ (name:=Str.ofString "__next__") hit.typeIs jW
  (bU jW hit.typeIs F.entry_dict_keyiterator_next ?_ (F.args_dict_keyiterator_next_1 _))))
 refine aa (ak ?_);refine aa ?_;refine aa ?_
 first|refine aa (jL hit.typeIs (ak ?_))|refine aa (nP hit.typeIs (ak ?_))
 refine aa (qh ho hd ?_);have hown:Builtin.Dict_items.ownsTuple "dict_keyiterator"=false:=by decide
 simp only[hown,i8,nh];show wpAny _ _ (if(Value.ref d==Value.none)=true then _ else _) _ _ s;rw[ao (show ¬((Value.ref d==Value.none)=true)from aU)];refine aa (ak ?_);refine aa (dH hod VD ?_);rw[ao (by rw[hsz];simp)];refine aa (ak ?_);refine aa (iK hod VD ?_);rw[ao (by simp)];refine ak ?_;obtain⟨hlt',hen⟩:=Array.getElem?_eq_some_iff.mp hx;simp only[show ¬((i:Int)<0)from by omega,nh,cJ,cz hlt'];refine aa ?_
 first|refine aa (jL hit.typeIs (ak ?_))|refine aa (nP hit.typeIs (ak ?_))
 refine aa (wpAny_isOneOf_keyiter hit.typeIs ?_);show wpAny _ _ (setField (.ref it) 1 (rawInt ((i:Int)+1)) >>=_) _ _ s;refine aa (jr ho hd (by simp) ?_);have J6:(s.heap.update it (Obj.mapFields (·.setIfInBounds 1 (rawInt ((i:Int)+1))))).IsKeyIter it d (i+1) n ep:=
  ⟨_,cU _ ho (rY (gX hd _)),(Obj.cls_mapFields ..).trans hc,by rw[gX hd];simp[rawInt]⟩
 refine aa (dB ?_);refine aa (wpAny_isOneOf_keyiter (s:={s with heap:=s.heap.update it (Obj.mapFields (·.setIfInBounds 1 (rawInt ((i:Int)+1))))}) J6.typeIs ?_);show wpAny _ _ (pure es[i].key) _ _ _;rw[hen];exact ak (ak ⟨_,rfl,ak (hQ _ J6 (ee ..))⟩)
theorem ve{it d:Addr}{i n ep:Nat}{od:Obj}{es:Array DictEntry}{Q:Option Value->Shared->Prop}(hh:A.handled=none)(hit:s.heap.IsKeyIter it d i n ep)(hod:s.heap.get? d=some od)(VD:od.data=.dict es ep)
  (hsz:es.size=n) (hge:n<=i) (hQ:∀h',Heap.ExtBut it s.heap h'->Q none {s with heap:=h'}):wpAny (model prog w) A (pyNext (.ref it)) Q E s:=by
 obtain⟨o,ho,hc,hd⟩:=id hit;unfold pyNext;refine aa (gM (bZ (name:=Str.ofString "__next__") hit.typeIs jW
  (bU jW hit.typeIs F.entry_dict_keyiterator_next ?_ (F.args_dict_keyiterator_next_1 _))))
 refine aa (ak ?_);refine aa ?_;refine aa ?_
 first|refine aa (jL hit.typeIs (ak ?_))|refine aa (nP hit.typeIs (ak ?_))
 refine aa (qh ho hd ?_);have hown:Builtin.Dict_items.ownsTuple "dict_keyiterator"=false:=by decide
 simp only[hown,i8,nh];show wpAny _ _ (if(Value.ref d==Value.none)=true then _ else _) _ _ s;rw[ao (show ¬((Value.ref d==Value.none)=true)from aU)];refine aa (ak ?_);refine aa (dH hod VD ?_);rw[ao (by rw[hsz];simp)];refine aa (ak ?_);refine aa (iK hod VD ?_);rw[ao (by simp)];refine ak ?_;have YM:es.size<=i:=by rw[hsz];exact hge
 simp only[show ¬((i:Int)<0)from by omega,nh,cJ,jx YM];refine aa ?_
 first|refine aa (jL hit.typeIs (ak ?_))|refine aa (nP hit.typeIs (ak ?_))
 show wpAny _ _ (setField (.ref it) 0 .none >>=_) _ _ s;refine aa (jr ho hd (by simp) ?_);show wpAny _ _ (newExc (.type "StopIteration") [] >>=_) _ _ _;refine aa ?_;simp only[newExc,newTuple];refine aa (cG ?_ (by size_fits));refine aa (m:=firstArgMember _ _) (jM (a:=Value.none) (by first|rfl|(simp only[firstArgMember];rfl)) ?_);refine cG ?_ (by size_fits);simp only[raiseNew];refine aa (wpAny_handled ?_);rw[show A.in1.handled=none from hh];refine aa (ak (wpAny_throw ?_));refine aa (dZ (T:="StopIteration") (b:=true) ⟨_,aE _ rfl,rfl⟩ ye ?_);exact ak (hQ _ (((ee ..).extBut.push _).push _))
end
theorem Mn{κ:Type}{kvs:List (κ×V)}{vs:List (κ×Value)}(h:KV kvs vs):∀{i:Nat} {k:κ} {v:V},kvs[i]? =some (k,v)->∃u,vs[i]? =some (k,u)/\cQ v u:=by
 unfold KV at h;induction h with
 |nil=>intro i k v e;simp at e
 | @cons a b l₁ l₂ r t ih=>
  intro i k v e;cases i with
  |zero=>
   simp only[A6,Option.some.injEq]at e;subst e;refine⟨b.2,?_,r.2⟩;simp only[A6];exact congrArg some (Prod.ext r.1.symm rfl)
  |succ j=>
   simp only[List.getElem?_cons_succ]at e ⊢;exact ih e
theorem zu{α β:Type}{G:α->β->Prop}{l₁:List α}{l₂:List β}(h:Paired G l₁ l₂):∀{i:Nat} {a:α},l₁[i]? =some a->∃b,l₂[i]? =some b/\G a b:=by
 induction h with
 |nil=>intro i a e;simp at e
 | @cons a b l₁ l₂ r t ih=>
  intro i a' e;cases i with
  |zero=>
   simp only[A6,Option.some.injEq]at e;subst e;exact⟨b,rfl,r⟩
  |succ j=>
   simp only[List.getElem?_cons_succ]at e ⊢;exact ih e
theorem Mp{k:Key}{u:Value}(h:p5 k u=true):cQ (kV k) u:=by
 rcases fm h with⟨i,t,rfl,rfl⟩|⟨x,t,rfl,rfl⟩
 ·exact⟨t,rfl⟩
 ·exact⟨t,rfl⟩
section
variable{X:Cx}{pins:List (Addr×Obj)}{σ:St}{H:Hp}{s:Shared}{d:Addr}{o:Obj}
theorem bJ.Sv{kvs:List (Key×V)}(I:bJ X pins σ H s)(h:H d=some (.jy o (.dK kvs))):
  (d==sysModules)=false/\s.heap.get? d=some o/\o.ExactDict/\∃(es:Array DictEntry) (ep:Nat) (vs:List (Key×Value)),o.data=.dict es ep/\es.size=kvs.length/\KV kvs vs/\s.heap.DictAt (cN X.prog X.w) d vs ep:=by
 obtain⟨hd,z,hs,vs,kv,o',es,ep,ho,hx,hdt,r⟩:=I.hok d _ h;rw[hd]at ho;cases ho;refine⟨hs,hd,hx,es,ep,vs,hdt,?_,kv,o,es,hd,hx,hdt,r⟩;have l1:=r.2.1.length;have l2:kvs.length=vs.length:=bg kv;rw[aJ]at l1;omega
theorem bJ.Pc{kvs:List (List Key×V)}(I:bJ X pins σ H s)(h:H d=some (.jy o (.dT kvs))):
  (d==sysModules)=false/\s.heap.get? d=some o/\o.ExactDict/\∃(es:Array DictEntry) (ep:Nat),o.data=.dict es ep/\es.size=kvs.length/\
   ∀(i:Nat) (k:List Key) (v:V),kvs[i]? =some (k,v)->∃(en:DictEntry) (q:Addr),es[i]? =some en/\en.key=.ref q/\H q=some (.tup (k.map kV)):=by
 obtain⟨hd,z,hs,xs,pr,o',es,ep,ho,hx,hdt,he,_⟩:=I.hok d _ h;rw[hd]at ho;cases ho;refine⟨hs,hd,hx,es,ep,hdt,?_,fun i k v e=>?_⟩
 ·have l1:es.size=xs.length:=size_of_entries he;have l2:kvs.length=xs.length:=bg pr;omega
 ·obtain⟨b,hb,e1,e2,_⟩:=zu pr e;have q:=entry_at he i;rw[hb]at q;exact⟨_,b.2.1,q,rfl,e2⟩
end
def VF(d:Addr)(o:Obj)(kvs:List (List Key×V)):It:=
 ⟨fun i H=>H d=some (.jy o (.dT kvs))/\i<kvs.length,fun i H x H'=>H'=H/\∃(k:List Key) (v:V) (q:Addr),kvs[i]? =some (k,v)/\x=.ref q/\H q=some (.tup (k.map kV)),fun i H=>H d=some (.jy o (.dT kvs))/\kvs.length<=i⟩
def Iti(d:Addr)(o:Obj)(kvs:List (Key×V)):It:=
 ⟨fun i H=>H d=some (.jy o (.dK kvs))/\i<kvs.length,fun i H x H'=>∃T k v,kvs[i]? =some (k,v)/\x=.ref T/\H T=none/\H'=upd H T (.tup [kV k,v]),fun i H=>H d=some (.jy o (.dK kvs))/\kvs.length<=i⟩
theorem sr{o:Obj}{es es':Array DictEntry}{ep Lq:Nat}(h:o.data=.dict es ep)(h':o.data=.dict es' Lq):es'=es/\Lq=ep:=by
 rw[h]at h';cases h';exact⟨rfl,rfl⟩
section
variable{P:Program}{w:World}{K:PySem.W.Frag}{tg:Expr}{d:Addr}{o:Obj}{es:Array DictEntry}{ep:Nat}
theorem GV{kvs:List (List Key×V)}(it:Addr)(hod:o.data=.dict es ep):yw P w K tg (VF d o kvs) [it] it (fun i h=>h.IsKeyIter it d i kvs.length ep) where
 mem:=by simp
 obj:=fun i h st b hb=>by
  have e:b=it:=by simpa using hb
  subst e;obtain⟨oi,e,c,dd⟩:=st;exact⟨oi,e,fun v z=>by rw[dd]at z;cases z⟩
 keep:=fun i h h' st k=>st.at fun oi e=>k it (by simp) oi e
 item:=by
  intro X hP hw hK hc i pins s σ H E I hf st hg;subst hP hw hK;obtain⟨hd,hi⟩:=hg;obtain⟨f0,f1,f2,f3,f4,f5⟩:=hf it (by simp);obtain⟨hs,hgd,hx,es',Lq,hdt,hsz,ent⟩:=I.Pc hd;obtain⟨rfl,rfl⟩:=sr hod hdt;obtain⟨⟨k,v⟩,hkv⟩:∃p,kvs[i]? =some p:=⟨kvs[i],aM hi⟩
  obtain⟨en,q,hen,hkey,hq⟩:=ent i k v hkv;refine tN st hgd hdt hsz hen fun h' st' sb=>?_;have I1:bJ X pins σ H {s with heap:=h'}:=I.turned (t':=s.toks) (fun b ob hb e=>(sb.2 b hb).trans e) f0 f1 f3 f4 f5;obtain⟨oi,e,c,dd⟩:=id st';exact⟨en.key,rfl,Em (s:={s with heap:=h'}) e c dd (by decide) ⟨.ref q,H,I1,hkey,⟨rfl,k,v,q,hkv,rfl,hq⟩,st',fun b hb=>(hf b hb).1⟩⟩
 done:=by
  intro X hP hw hK hc i pins s σ H E I hf st hg;subst hP hw hK;obtain⟨hd,hi⟩:=hg;obtain⟨f0,f1,f2,f3,f4,f5⟩:=hf it (by simp);obtain⟨hs,hgd,hx,es',Lq,hdt,hsz,ent⟩:=I.Pc hd;obtain⟨rfl,rfl⟩:=sr hod hdt;exact ve (I.ok.hd hc) st hgd hdt hsz hi fun h' eb=>⟨rfl,I.turned (t':=s.toks) (fun b ob hb e=>eb b ob hb e) f0 f1 f3 f4 f5⟩
 self:=fun A i s Q E st h=>by
  refine qf st.typeIs F.slot_dict_keyiterator_iter (bU F.slot_dict_keyiterator_iter st.typeIs F.entry_dict_keyiterator_iter ?_ (F.args_dict_keyiterator_iter_1 _));show wpAny _ _ (ret (.ref it)) _ _ s;exact ak ⟨_,rfl,"dict_keyiterator",_,st.typeIs,F.slot_dict_keyiterator_next.lookup,h⟩
theorem GW{kvs:List (Key×V)}{elts:List Expr}{kk:Nat}{tpos:Pos}(it:Addr)(hod:o.data=.dict es ep):
  yw P w K (.Tuple elts kk tpos) (Iti d o kvs) [it] it (fun i h=>∃ok ov,IsItemIter h it d i kvs.length ep ok ov) where
 mem:=by simp
 obj:=fun i h st b hb=>by
  have e:b=it:=by simpa using hb
  subst e;obtain⟨ok,ov,e⟩:=st;exact⟨_,e,fun v z=>nomatch z⟩
 keep:=fun i h h' st k=>let ⟨ok,ov,e⟩:=st;⟨ok,ov,k it (by simp) _ e⟩
 item:=by
  intro X hP hw hK hc i pins s σ H E I hf st hg;subst hP hw hK;obtain⟨hd,hi⟩:=hg;obtain⟨hs,hgd,hx,es',Lq,vs,hdt,hsz,kv,hm⟩:=I.Sv hd;obtain⟨rfl,rfl⟩:=sr hod hdt;obtain⟨⟨k,v⟩,hkv⟩:∃p,kvs[i]? =some p:=⟨kvs[i],aM hi⟩
  obtain⟨u,hu,ru⟩:=Mn kv hkv;have hl:kvs.length=vs.length:=bg kv;obtain⟨ok,ov,he⟩:=st;rw[hl]at he;have hlt:it<s.heap.objs.size:=aF he;refine wpAny_pyNext_items_item he hm hu fun key h' hkey ho hT hz hk=>?_;refine⟨_,rfl,wpAny_letOwnedTupleGo_items (s:={s with heap:=h'}) ho fun h'' he' sb=>?_⟩;have hT2:h''.get? s.heap.objs.size=some {cls:=.type "tuple",data:=.seq #[key,u]}:=(sb.2 _ (dz hlt)).trans hT;have new:eX X.prog X.w (upd H s.heap.objs.size (.tup [kV k,v])) h'' s.heap.objs.size (.tup [kV k,v]):=
   ⟨by show 2<=sizeLine;decide,[key,u],.cons (Mp (show p5 k key=true from hkey)) (.cons ru .nil),⟨_,hT2,rfl,_,rfl⟩⟩
  have I1:bJ X pins σ (upd H s.heap.objs.size (.tup [kV k,v])) {s with heap:=h''}:=
   I.oG (t':=s.toks) (ch:=[it]) (fun b ob hb e=>(sb.2 b (by simpa using hb)).trans (hk b ob (by simpa using hb) e)) hf (aq _) new
  refine⟨.ref s.heap.objs.size,_,I1,rfl,⟨_,k,v,hkv,rfl,I.hok.fresh (aq _),rfl⟩,⟨key,u,?_⟩,fun b hb=>?_⟩
  ·rw[hl];exact he'
  ·have e:b=it:=by simpa using hb
   rw[e,aI (aT hlt)];exact(hf it (by simp)).1
 done:=by
  intro X hP hw hK hc i pins s σ H E I hf st hg;subst hP hw hK;obtain⟨hd,hi⟩:=hg;obtain⟨f0,f1,f2,f3,f4,f5⟩:=hf it (by simp);obtain⟨hs,hgd,hx,es',Lq,vs,hdt,hsz,kv,hm⟩:=I.Sv hd;obtain⟨rfl,rfl⟩:=sr hod hdt;have hl:kvs.length=vs.length:=bg kv;obtain⟨ok,ov,he⟩:=st;rw[hl]at he;exact wpAny_pyNext_items_end (I.ok.hd hc) he hm (ql (by omega)) fun h' eb=>⟨rfl,I.turned (t':=s.toks) (fun b ob hb e=>eb b ob hb e) f0 f1 f3 f4 f5⟩
 self:=fun A i s Q E st h=>let ⟨_,_,e⟩:=st;PySem.W.kcp_self e h
end
def Sw(td:TE):TI:=fun σ H R=>td σ H fun x H1=>∃d o kvs,x=.ref d/\H1 d=some (.jy o (.dK kvs))/\R (Iti d o kvs) H1
section
variable{X:Cx}{tg e:Expr}{td:TE}{apos cpos:Pos}
theorem Mq{elts:List Expr}{kk:Nat}{tpos:Pos}(he:PE X e td)(hbase:attributeBase e "items" X.env (eval e X.env)=eval e X.env:=by rfl)(hline:(apos.endLine==cpos.line)=true:=by rfl):
  PI X (.Tuple elts kk tpos) (.Call (.Attribute e "items" apos) [] [] cpos) (Sw td):=by
 intro pins s σ H R I h;refine gw (T:="dict") (id:="dict.items") hbase rfl hline F.plainAttrs_dict A3 F.type_dict_items (dI (he pins s σ H _ I h) fun u s1 eT=>?_);obtain⟨x,H1,I1,rx,d,o,kvs,ex,hd,q⟩:=eT;subst ex;obtain rfl:u=Value.ref d:=rx;obtain⟨hs,hgd,hx,es,ep,vs,hdt,hsz,kv,hm⟩:=I1.Sv hd;have hl:kvs.length=vs.length:=bg kv;refine⟨hm.dictOf.typeIs,hm.dictOf.mapOf.noDict,?_⟩;have I2:bJ X pins σ H1 {s1 with heap:=s1.heap.push {cls:=.type "dict_items",data:=.fields #[.ref d]}}:=I1.kept (t':=s1.toks) fun b ob q=>af _ q;have fin:wpAny (model X.prog X.w) X.A (pyIter (.ref s1.heap.objs.size)) (Vh X pins σ (.Tuple elts kk tpos) R) X.xe {s1 with heap:=s1.heap.push {cls:=.type "dict_items",data:=.fields #[.ref d]}}:=by
  refine wpAny_pyIter_items (d:=d) (knd:=cN X.prog X.w) ⟨_,aE _ rfl,rfl,rfl⟩ (hm.push _) (wL (tk:=s1.toks) I2 _ (GW _ hdt) ⟨.none,.none,?_⟩ q);rw[hl];exact aE _ rfl
 show wpAny _ _ (callWith cpos (.builtin "dict.items") [.ref d] [] []) _ X.xe s1;exact method_meetsIn A3 F.entry_dict_items rfl (PySem.evalArgs_none ⟨rfl,hm.dictOf.typeIs,F.args_dict_items_1 _,_,meets_dict_items (cN X.prog X.w) d hs,⟨vs,hm.dictOf⟩,fin⟩)
end
def VG(K:PySem.W.Frag)(a:Addr):It:=
 ⟨fun i H=>∃(xs:List V) (x:V),cI K H a xs/\xs[i]? =some x,fun i H v H'=>∃T x,v=.ref T/\H T=none/\H'=upd H T (.tup [.int (i:Nat),x])/\∀xs,cI K H a xs->xs[i]? =some x,fun i H=>∃xs:List V,cI K H a xs/\xs.length<=i⟩
theorem J7{P:Program}{w:World}{K:PySem.W.Frag}{elts:List Expr}{kk:Nat}{tpos:Pos}(a e it:Addr):
  yw P w K (.Tuple elts kk tpos) (VG K a) [e,it] e (fun i h=>(∃old,IsEnum h e it ((i:Nat):Int) old)/\h.IsListIter it a i/\e≠it) where
 mem:=by simp
 obj:=fun i h st b hb=>by
  obtain⟨⟨old,he⟩,⟨o,ho,hc,hd⟩,_⟩:=st;have e':b=e\/b=it:=by simpa using hb
  rcases e' with z|z
  ·rw[z];exact⟨_,he,fun v q=>nomatch q⟩
  ·rw[z];exact⟨o,ho,fun v q=>by rw[hd]at q;cases q⟩
 keep:=fun i h h' st k=>let ⟨⟨old,he⟩,hi,hne⟩:=st;⟨⟨old,k e (by simp) _ he⟩,hi.at fun o q=>k it (by simp) o q,hne⟩
 item:=by
  intro X hP hw hK hc i pins s σ H E I hf st hg;subst hP hw hK;obtain⟨⟨old,he⟩,hit,hne⟩:=st;obtain⟨xs,x,hq,hx⟩:=hg;obtain⟨its,rv,p,hz⟩:=I.list hq;obtain⟨u,hu,ru⟩:=rv.get hx;have hel:e<s.heap.objs.size:=aF he;have hil:it<s.heap.objs.size:=by obtain⟨_,q,_⟩:=hit;exact aF q
  refine wpAny_pyNext_enum_item he hit p.isList (x:=u) (by simpa using hu) hne fun h' ho J6 hT hsz hk=>?_;refine⟨_,rfl,wpAny_letOwnedTupleGo_enum (s:={s with heap:=h',toks:=s.toks+1}) ho fun h'' he' sb=>?_⟩;have hT2:h''.get? s.heap.objs.size=some {cls:=.type "tuple",data:=.seq #[.int i s.toks,u]}:=(sb.2 _ (dz hel)).trans hT;have new:eX X.prog X.w (upd H s.heap.objs.size (.tup [.int (i:Nat),x])) h'' s.heap.objs.size (.tup [.int (i:Nat),x]):=
   ⟨by show 2<=sizeLine;decide,[.int i s.toks,u],.cons ⟨_,rfl⟩ (.cons ru .nil),⟨_,hT2,rfl,_,rfl⟩⟩
  have I1:bJ X pins σ (upd H s.heap.objs.size (.tup [.int (i:Nat),x])) {s with heap:=h'',toks:=s.toks+1}:=
   I.oG (ch:=[e,it]) (fun b ob hb q=>(sb.2 b (fun z=>hb (by simp[z]))).trans (hk b ob (fun z=>hb (by simp[z])) (fun z=>hb (by simp[z])) q)) hf (aq _) new
  refine⟨.ref s.heap.objs.size,_,I1,rfl,⟨_,x,rfl,I.hok.fresh (aq _),rfl,fun ys hy=>by rw[I.qy hy hq];exact hx⟩,⟨⟨u,?_⟩,J6.at fun o q=>(sb.2 it (bP hne)).trans q,hne⟩,fun b hb=>?_⟩
  ·have e1:((i+1:Nat):Int)=(i:Int)+1:=by omega
   rw[e1];exact he'
  ·have hb':b<s.heap.objs.size:=by
    have e':b=e\/b=it:=by simpa using hb
    rcases e' with z|z
    ·rw[z];exact hel
    ·rw[z];exact hil
   rw[aI (aT hb')];exact(hf b hb).1
 done:=by
  intro X hP hw hK hc i pins s σ H E I hf st hg;subst hP hw hK;obtain⟨⟨old,he⟩,hit,hne⟩:=st;obtain⟨xs,hq,hx⟩:=hg;obtain⟨its,rv,p,hz⟩:=I.list hq;obtain⟨f0,f1,f2,f3,f4,f5⟩:=hf it (by simp);have hl:=rv.length;exact wpAny_pyNext_enum_end (I.ok.hd hc) he hit p.isList (by simp;omega) fun h' eb=>⟨rfl,I.turned (t':=s.toks) (fun b o hb q=>eb b o hb q) f0 f1 f3 f4 f5⟩
 self:=fun A i s Q E st h=>let ⟨⟨_,he⟩,_⟩:=st;A0 he h
def VH(K:PySem.W.Frag)(ta:TA):TI:=fun σ H R=>ta σ H fun vs H1=>∃a xs,vs=[.ref a]/\cI K H1 a xs/\R (VG K a) H1
theorem Pd{X:Cx}{e:Expr}{ta:TA}{p pos tpos:Pos}{elts:List Expr}{kk:Nat}(hg:Gl X "enumerate")(hm:X.mg "enumerate"=none)(ha:PA X [e] ta)(hs:starEach [e] X.env=[(false,eval e X.env)]:=by rfl):
  PI X (.Tuple elts kk tpos) (.Call (.Name "enumerate" p) [e] [] pos) (VH X.K ta):=by
 intro pins s σ H R I h;refine Call_ (qw I hg hm boot_enumerate (gj (dI (ha pos pins s σ H _ I h) fun us s1 eT=>?_) hs rfl));obtain⟨vs,H1,I1,r1,q1⟩:=eT;obtain⟨a,xs,ex,hq,q⟩:=q1;subst ex;cases r1 with
 |cons r rr=>
  cases rr;cases r;obtain⟨its,rv,p',hz⟩:=I1.list hq;refine call_enumerate_list p'.isList fun h' he hit hsz hk=>A0 he ?_;have I2:bJ X pins σ H1 {s1 with heap:=h'}:=I1.kept (t':=s1.toks) hk;refine⟨s1.heap.objs.size+1,[s1.heap.objs.size+1,s1.heap.objs.size],_,_,H1,rfl,I2,J7 a (s1.heap.objs.size+1) s1.heap.objs.size,⟨⟨.none,he⟩,hit,Nat.succ_ne_self _⟩,fun b hb=>?_,q⟩;have e':b=s1.heap.objs.size+1\/b=s1.heap.objs.size:=by simpa using hb
  have hle:s1.heap.objs.size<=b:=by
   rcases e' with z|z
   ·rw[z];exact kI _ _
   ·rw[z];exact aq _
  exact I1.GC hle (I1.hok.fresh hle)
theorem J8:bootBuiltins "zip"=some (.type "zip"):=by decide +kernel
end L2
section
namespace TL
open PySem PySem.Builtin PySem.Builtin.Str PySem.StrLaws
abbrev tl(x:Str):List Nat:=x.cps.toList
theorem GX(x:Str):x.length=(tl x).length:=by simp[tl,Str.length]
theorem BS(x y:Str):tl (x++y)=tl x++tl y:=by
 show(x++y).cps.toList=_;rw[Str.cps_append,Array.toList_append]
def fP(n:Nat):List Nat:=(Nat.toDigits 10 n).map Char.toNat
theorem GY(n:Nat):tl (Str.ofString (toString ((n:Nat):Int)))=fP n:=PySem.W.KIN.signs_num n
theorem tO:∀d:Nat,d<10->(Nat.digitChar d).toNat=48+d:=by decide
theorem ID{n:Nat}(h:n<10):fP n=[48+n]:=by
 unfold fP;rw[Nat.toDigits_of_lt_base h];show [(Nat.digitChar n).toNat]=_;rw[tO n h]
theorem BU{n:Nat}(h:10<=n):fP n=fP (n / 10)++[48+n%10]:=by
 have hm:n%10<10:=yP n (by decide);have t:Nat.toDigits 10 (n / 10)++Nat.toDigits 10 (n%10)=Nat.toDigits 10 (10*(n / 10)+n%10):=Nat.toDigits_append_toDigits (by decide) (by omega) hm;rw[Nat.div_add_mod]at t;show(Nat.toDigits 10 n).map Char.toNat=_;rw[<- t,aX,Nat.toDigits_of_lt_base hm];show(Nat.toDigits 10 (n / 10)).map Char.toNat++[(Nat.digitChar (n%10)).toNat]=_;rw[tO _ hm]<;>rfl
theorem EK{n k:Nat}(hk:0<k)(h:n<10 ^ k):(fP n).length<=k:=by
 have z:=PyProof.Rows.toString_length_le (v:=(n:Int)) (by omega) hk (by
  have e:((10:Int) ^ k)=((10 ^ k:Nat):Int):=by
   first
    |exact(Int.natCast_pow 10 k).symm
    |simp
  rw[e]
  first|exact Int.ofNat_lt.mpr h|omega)
 rw[GX,GY]at z;exact z
end TL
end
namespace L2
open PySem PySem.Spec PyProof.Rows
def inClass(s:Stmt)(j:Nat):Stmt:=match s with
 | .ClassDef _ _ _ body _ _ _ _ _ _ _=>body.getD j (.Pass ⟨0,0,0,0⟩)
 |_=>.Pass ⟨0,0,0,0⟩
def iD(s:Stmt):Arguments:=match s with
 | .FunctionDef _ a _ _ _ _ _ _ _ _=>a
 |_=>{posonlyargs:=[],args:=[],vararg:=none,kwonlyargs:=[],kw_defaults:=[],kwarg:=none,defaults:=[]}
def gB(s:Stmt):List Stmt:=match s with
 | .FunctionDef _ _ b _ _ _ _ _ _ _=>b
 |_=>[]
def aN(s:Stmt):Scope:=match s with
 | .FunctionDef _ _ _ _ _ _ sc _ _ _=>sc
 |_=>{kind:=.function,names:=[],isGenerator:=false,isCoroutine:=false}
abbrev ig:nZ:=fun _ _ _ _ _ _=>False
abbrev E0:XK:=fun _ _ _=>False
theorem bx{X:Cx} :lq ig X E0:=fun _ _ _ _ _ _ _ h=>h.elim
structure A9 (K:PySem.W.Frag) (x qual:Str) (st:Stmt) (f:Addr) (fd:FuncData):Prop where
 ex:∃(oc:Value) (od:Option Addr) (kV doc pm:Value) (an:Option Addr) (cdv ct:Value) (osl:Array (Option Value)),
  fd=PySem.W.fnOf x qual (iD st) (gB st) (aN st) .none kV doc pm an cdv ct/\K.lookup f=some ⟨oc,od,.func fd,osl⟩/\PySem.W.codeIn K cdv qual=true
 kp:PySem.W.keepIn K (.ref f)=true
section
variable{P:Program}{w:World}{K:PySem.W.Frag}{mg:Str->Option Value}{base:Heap}
theorem A9.ok{x qual:Str}{st:Stmt}{f:Addr}{fd:FuncData}{N ps:List Str}{k:Nat}{sp:Sp}(F:A9 K x qual st f fd)(S:bh N ps (aN st))(len:∀vs H Q E,sp vs H Q E->vs.length=ps.length)
  (hbody:∀(cdv:Value) (A:Around) (outer:List Env) (s:Shared) (H:Hp) (vs:List V) (Q:VK) (E:XK),iC k (A.deeper (envOfC qual (aN st) s.heap.objs.size f cdv))->sp vs H Q E->
   ∃t,Ek (ze ig P w K mg base N qual (aN st) f cdv A outer s H E).Xy (gB st) t/\t {nx:=fun _ H'=>Q .dY H',rt:=Q} (start N vs) H):jz P w K mg base ig (k+1) f fd ps sp:=by
 obtain⟨oc,od,kV,doc,pm,an,cdv,ct,osl,rfl,lk,hcd⟩:=F.ex;refine Q4 lk hcd S len fun A outer s H vs Q E hr Ls=>?_;obtain⟨t,h,q⟩:=hbody cdv A outer s H vs Q E hr Ls;exact⟨t,h.Xy,q⟩
theorem A9.binds{x qual:Str}{st:Stmt}{f:Addr}{fd:FuncData}{ps:List Str}(F:A9 K x qual st f fd)
  (h:∀(kV doc pm:Value) (an:Option Addr) (cdv ct:Value) (us:List Value),us.length=ps.length->bindArgs (PySem.W.fnOf x qual (iD st) (gB st) (aN st) .none kV doc pm an cdv ct) ⟨us,[]⟩=pure (ps.zip us)):jn K fd ps []:=by
 obtain⟨oc,od,kV,doc,pm,an,cdv,ct,osl,rfl,lk,hcd⟩:=F.ex;exact .all (h kV doc pm an cdv ct)
theorem qL{x qual:Str}{st:Stmt}{f:Addr}{oc:Value}{od an:Option Addr}{osl:Array (Option Value)}{kV doc pm cdv ct:Value}(l:K.lookup f=some ⟨oc,od,.func (PySem.W.fnOf x qual (iD st) (gB st) (aN st) .none kV doc pm an cdv ct),osl⟩)
  (c:PySem.W.codeIn K cdv qual=true) (k:PySem.W.keepIn K (.ref f)=true):A9 K x qual st f (PySem.W.fnOf x qual (iD st) (gB st) (aN st) .none kV doc pm an cdv ct):=⟨⟨oc,od,kV,doc,pm,an,cdv,ct,osl,rfl,l,c⟩,k⟩
end
theorem eL{A:Around}{k:Nat}(hr:iC k A):A.units+1<cLine:=cM (Nat.add_le_add_left (by decide:1<=64) _) hr.units
theorem wN{n:Nat}(h:n<=1000):n<sizeLine:=cM h (by decide)
section
variable{X:Cx}
theorem pv(i:Nat){x:Str}{pos:Pos}(hN:X.N[i]? =some x:=by rfl)(hv:UI X.env.scope x:=by first|exact Or.inl rfl|exact Or.inr (Or.inl rfl)|exact Or.inr (Or.inr rfl))(hd:(x==("__debug__" :Str))=false:=by decide)
  (hcd:(x==("__classdict__" :Str))=false:=by decide):PE X (.Name x pos) (cT i):=RJ hN hv hd hcd
theorem wO:lE X (.builtin "len") (fun xs H Q=>∃a kvs,xs=[V.ref a]/\H a=some (.dK kvs)/\Q (.int kvs.length) H):=by
 intro pins s σ H xs us Q I r h;obtain⟨a,kvs,rfl,ha,q⟩:=h;obtain⟨u,rfl,ru⟩:=vals1 r;cases ru;exact Vx I (.inl ha) fun t s' I'=>⟨.int kvs.length,H,I',⟨t,rfl⟩,q⟩
end
theorem cg{A B:Prop}(h:B):if false=true then A else B:=by
 rw[ao aU];exact h
theorem cW{A B:Prop}(h:A):if true=true then A else B:=by
 rw[aB rfl];exact h
theorem gm{c A B:Prop}[Decidable c](h1:c->A)(h2:¬c->B):if c then A else B:=by
 by_cases h:c
 ·rw[aB h];exact h1 h
 ·rw[ao h];exact h2 h
def bF(H H':Hp):Prop:=∀b o,H b=some o->H' b=some o
theorem bF.refl(H:Hp):bF H H:=fun _ _ h=>h
theorem bF.trans{H H1 H2:Hp}(a:bF H H1)(b:bF H1 H2):bF H H2:=fun c o h=>b c o (a c o h)
theorem bF.free{H H':Hp}(e:bF H H'){l:Addr}(h:H' l=Option.none):H l=Option.none:=by
 cases q:H l with
 |none=>rfl
 |some o=>
  rw[e l o q]at h;cases h
theorem bF.seq{K:PySem.W.Frag}{H H':Hp}{a:Addr}{xs:List V}(e:bF H H')(h:cI K H a xs):cI K H' a xs:=by
 rcases h with(h|⟨o,h⟩)|h
 ·exact .inl (.inl (e _ _ h))
 ·exact .inl (.inr ⟨o,e _ _ h⟩)
 ·exact .inr h
section
variable{κ:Type}[DecidableEq κ]
theorem EL{kvs:List (κ×V)}{k:κ}(h:dc kvs k=none):¬k∈kvs.map (·.1):=by
 intro m;obtain⟨p,hp,e⟩:=List.mem_map.mp m;have q:(kvs.any fun kv=>decide (kv.1=k))=true:=List.any_eq_true.mpr ⟨p,hp,aC e⟩;rw[iS,h]at q;exact absurd q (by simp)
theorem C1{kvs:List (κ×V)}{k:κ}{v:V}(h:dc kvs k=some v):k∈kvs.map (·.1):=by
 have q:(kvs.any fun kv=>decide (kv.1=k))=true:=by
  rw[iS,h]
  all_goals rfl
 obtain⟨p,hp,e⟩:=List.any_eq_true.mp q;exact List.mem_map.mpr ⟨p,hp,aH e⟩
theorem IE:∀{l:List κ} {k:κ},l.Nodup->¬k∈l->(l++[k]).Nodup
 |[],k,_,_=>by simp
 |a::r,k,h,hk=>by
  obtain⟨h1,h2⟩:=List.nodup_cons.mp h;show(a::(r++[k])).Nodup;refine List.nodup_cons.mpr ⟨fun m=>?_,IE h2 fun m=>hk (List.mem_cons.mpr (Or.inr m))⟩;rcases List.mem_append.mp m with q|q
  ·exact h1 q
  ·exact hk (List.mem_cons.mpr (Or.inl (List.mem_singleton.mp q).symm))
theorem Pe{kvs:List (κ×V)}{k:κ}(v:V)(hn:(kvs.map (·.1)).Nodup)(h:dc kvs k=none):((putK kvs k v).map (·.1)).Nodup:=by
 rw[Mb v h,aX];exact IE hn (EL h)
theorem BV{p:κ×V}{r:List (κ×V)}{k:κ}(e:p.1=k):iM (p::r) k=iM r k:=by
 unfold iM;rw[cD,ao (by simp[e])]
theorem wQ{p:κ×V}{r:List (κ×V)}{k:κ}(e:¬p.1=k):iM (p::r) k=p::iM r k:=by
 unfold iM;rw[cD,aB (by simp[e])]
theorem EM:∀{kvs:List (κ×V)} {k:κ},¬k∈kvs.map (·.1)->iM kvs k=kvs
 |[],_,_=>rfl
 |p::r,k,h=>by
  have h':¬k∈r.map (·.1):=fun m=>by
   obtain⟨q,hq,e⟩:=List.mem_map.mp m;exact h (List.mem_map.mpr ⟨q,List.mem_cons.mpr (Or.inr hq),e⟩)
  rw[wQ fun e=>h (List.mem_map.mpr ⟨p,List.mem_cons.mpr (Or.inl rfl),e⟩),EM h']
theorem J9{kvs:List (κ×V)}{k:κ}{p:κ×V}(h:p∈iM kvs k):p∈kvs:=(List.mem_filter.mp h).1
theorem zw:∀{kvs:List (κ×V)} {k:κ},(kvs.map (·.1)).Nodup->((iM kvs k).map (·.1)).Nodup
 |[],_,_=>wo
 |p::r,k,h=>by
  have h:(p.1::r.map (·.1)).Nodup:=h;obtain⟨h1,h2⟩:=List.nodup_cons.mp h;by_cases e:p.1=k
  ·rw[BV e];exact zw h2
  ·rw[wQ e];show(p.1::(iM r k).map (·.1)).Nodup;refine List.nodup_cons.mpr ⟨fun m=>h1 ?_,zw h2⟩;obtain⟨q,hq,eq⟩:=List.mem_map.mp m;exact List.mem_map.mpr ⟨q,J9 hq,eq⟩
theorem BW:∀{kvs:List (κ×V)} {k:κ},(kvs.map (·.1)).Nodup->k∈kvs.map (·.1)->(iM kvs k).length+1=kvs.length
 |[],_,_,m=>by simp at m
 |p::r,k,h,m=>by
  have h:(p.1::r.map (·.1)).Nodup:=h;have m:k=p.1\/k∈r.map (·.1):=List.mem_cons.mp m;obtain⟨h1,h2⟩:=List.nodup_cons.mp h;by_cases e:p.1=k
  ·subst e;rw[BV rfl,EM h1]
   all_goals rfl
  ·have m':k∈r.map (·.1):=m.resolve_left fun z=>e z.symm;have q:=BW h2 m';rw[wQ e,az,az];omega
end
section
variable{prog:Program}{w:World}{A:Around}{E:Value->Shared->Prop}{s:Shared}{d:Addr}{o:Obj}{es:Array DictEntry}{ep:Nat}
theorem EN(hh:A.handled=none)(I:Addr)(hne:d≠I)(hdat:o.data=.dict es ep):
  Walks prog w A I [I,d] [I] es.size (fun i v=>∃en,es[i]? =some en/\v=en.key) (fun i h=>h.IsKeyIter I d i es.size ep/\h.get? d=some o) where
 sub:=fun b hb=>by simp at hb;simp[hb]
 frame:=fun _ _ _ st hk=>⟨st.1.at fun o e=>hk I (by simp) o e,hk d (by simp) _ st.2⟩
 item:=fun i s Q E hi st hQ=>by
  refine tN st.1 st.2 hdat rfl (cz hi) fun h' J6 hs'=>?_;exact hQ _ h' s.toks ⟨_,cz hi,rfl⟩ ⟨J6,(hs'.2 d hne).trans st.2⟩ fun b o hb e=>(hs'.2 b (fun h=>hb (by simp[h]))).trans e
 done:=fun s Q E st hQ=>ve hh st.1 st.2 hdat rfl (aq _) fun h' he'=>hQ h' s.toks fun b o hb e=>he' b o (fun h=>hb (by simp[h])) e
 self:=fun _ _ _ _ st hQ=>wpAny_pyIter_keyiter st.1 hQ
theorem Sy(lo:(d==sysModules)=false)(hx:o.ExactDict)(hdat:o.data=.dict es ep):PySem.W.KdlSrc prog w "dict" d d es.size (fun i v=>∃en,es[i]? =some en/\v=en.key) (fun h=>h.get? d=some o) where
 type:=fun _ hm=>⟨o,hm,hx.1⟩
 there:=fun _ hm=>⟨aF hm,aF hm⟩
 keep:=fun _ _ hm hk=>hk d (.inl rfl) o hm
 notList:=by decide
 notTuple:=by decide
 hint:=fun _ _ _ _ hm hq=>PySem.W.kdl_hint_dict ⟨o,hm,hx.1⟩ hq
 iter:=fun _ _ hh hm=>⟨_,_,(fun _ _ hq=>wM lo hm hx hdat hq),EN hh _ (aT (aF hm)) hdat,⟨⟨_,aE _ rfl,rfl,rfl⟩,af _ hm⟩⟩
theorem zx{T:String}{r:Addr}{n:Nat}{P:Nat->Value->Prop}{OK:Heap->Prop}{ns:List Int}{Q:Value->Shared->Prop}(K:PySem.W.KdlSrc prog w T r d n P OK)(hh:A.handled=none)(hok:OK s.heap)(hn:n<=sizeLine)
  (hI:∀acc:Array Value,ItemsOf P acc n->IntsAre acc.toList ns)
  (h:∀(h' h2:Heap) (tk:Nat) (out:Array Value) (c:Nat) (ns':List Int),(∀b o,s.heap.get? b=some o->h'.get? b=some o)->(∀b o,h'.get? b=some o->h2.get? b=some o)->h2.get? h'.objs.size=some (seqObj "list" out c)->
   IntsAre out.toList ns'->ns'.Perm ns->ns'.Pairwise (· <= ·)->Q (.ref h'.objs.size) {s with heap:=h2,toks:=tk}):
  wpAny (model prog w) A (call (.builtin "sorted") [.ref r]) Q E s:=by
 refine Calls.call_function_entry kind_sorted plain_sorted entry_sorted (args_sorted1 _) ?_;unfold Builtin.«sorted»;refine aa (m:=checkCount "sorted" 1 1 _) (ak ?_);refine aa (PySem.W.kdu_collect (A:=A.in1) K hh hok hn fun h' tk acc hk hacc=>?_);have hl:acc.toList.length=n:=by rw[aJ];exact hacc.1
 refine aa (wpAny_newList ?_ (by rw[hl];exact hn));have UK:(h'.push (seqObj "list" acc.toList.toArray 0)).get? h'.objs.size=some (seqObj "list" acc.toList.toArray 0):=aE _ rfl;refine aa (dB (bU slot_list_sort ⟨_,UK,rfl⟩ entry_list_sort (list_sort_treeAny UK (hI acc hacc) (by rw[hl];exact hn) fun out ns' a1 a2 a3=>⟨_,rfl,?_⟩) (args_list_sort _)));have kp:∀b o,h'.get? b=some o->(sortedHeap (h'.push (seqObj "list" acc.toList.toArray 0)) h'.objs.size acc.toList out).get? b=some o:=fun b o e=>by
  have lt:=aF e;rw[sortedHeap_old (aT lt) (by rw[size_push'];exact fS lt)];exact af _ e
 obtain⟨c,at_⟩:=sortedHeap_at (out:=out) UK;exact ak ⟨_,rfl,h h' _ tk out c ns' hk kp at_ a1 a2 a3⟩
end
section
variable{X:Cx}{pins:List (Addr×Obj)}{σ:St}{H:Hp}{s:Shared}{d:Addr}
theorem Rd.dK{kvs:List (Key×V)}(I:bJ X pins σ H s)(h:Rd H d (.dK kvs)):kvs.length<=sizeLine/\(d==sysModules)=false/\∃(vs:List (Key×Value)) (ep:Nat),KV kvs vs/\s.heap.DictAt (cN X.prog X.w) d vs ep:=by
 obtain⟨z,y,vs,kv,o,es,ep,ho,hx,hdt,r⟩:=h.ok I.hok;exact⟨z,y,vs,ep,kv,o,es,ho,hx,hdt,r⟩
theorem Rd.dT{kvs:List (List Key×V)}(I:bJ X pins σ H s)(h:Rd H d (.dT kvs)):kvs.length<=sizeLine/\(d==sysModules)=false/\∃(o:Obj) (es:Array DictEntry) (ep:Nat),s.heap.get? d=some o/\o.ExactDict/\o.data=.dict es ep/\es.size=kvs.length/\
  ∀(i:Nat) (k:List Key) (v:V),kvs[i]? =some (k,v)->∃(en:DictEntry) (q:Addr),es[i]? =some en/\en.key=.ref q/\H q=some (.tup (k.map kV))/\cQ v en.val:=by
 obtain⟨z,y,xs,pr,o,es,ep,ho,hx,hdt,he,_⟩:=h.ok I.hok;refine⟨z,y,o,es,ep,ho,hx,hdt,?_,fun i k v e=>?_⟩
 ·have l1:es.size=xs.length:=size_of_entries he;have l2:kvs.length=xs.length:=bg pr;omega
 ·obtain⟨b,hb,e1,e2,e3⟩:=zu pr e;have q:=entry_at he i;rw[hb]at q;exact⟨_,b.2.1,q,rfl,e2,e3⟩
end
section
variable{X:Cx}
def Mr:List V->Hp->VK->Prop:=fun vs H Q=>∃(a:Addr) (kvs:List (Key×V)) (ns:List Int),vs=[V.ref a]/\Rd H a (.dK kvs)/\kvs.map (·.1)=ns.map Sum.inl/\
 ∀(ns':List Int) (p:Addr),ns'.Perm ns->ns'.Pairwise (· <= ·)->H p=none->Q (.ref p) (upd H p (.lst (ns'.map V.int)))
theorem um:∀{acc:List Value} {ns:List Int},acc.length=ns.length->(∀(j:Nat) (v:Value),acc[j]? =some v->∃(n:Int) (t:Tok),ns[j]? =some n/\v=.int n t)->IntsAre acc ns
 |[],[],_,_=>.nil
 |[],_::_,h,_=>by cases h
 |_::_,[],h,_=>by cases h
 |v::acc,n::ns,h,hv=>by
  obtain⟨m,t,e1,rfl⟩:=hv 0 v rfl;cases e1;exact .cons _ t (um (Nat.succ.inj h) fun j u e=>hv (j+1) u e)
theorem pC(hc:X.calm=true):lE X (.builtin "sorted") Mr:=by
 intro pins s σ H vs us Q I r h;obtain⟨a,kvs,ns,rfl,hs,hk,q⟩:=h;rw[cC.zh r];obtain⟨z,y,ws,ep,kv,hm⟩:=hs.dK I;have hl:kvs.length=ws.length:=bg kv;have Rc:ns.length=kvs.length:=by have:=congrArg List.length hk;simpa using this.symm
 refine zx (ns:=ns) (PySem.W.kdl_dict (knd:=cN X.prog X.w) (kvs:=ws) (ep:=ep) y) (I.ok.hd hc) hm (by rw[<- hl];exact z) (fun acc hacc=>?_) fun h' h2 tk out c ns' k1 k2 hD a1 a2 a3=>?_
 ·refine um (by rw[aJ,hacc.1,Rc,hl]) fun j v e=>?_;obtain⟨k,x,hx,hkey⟩:=hacc.2 j v (by rw[<- jT];exact e);have hj:j<kvs.length:=by rw[hl];exact(List.getElem?_eq_some_iff.mp hx).1
  obtain⟨u,hu,_⟩:=Mn kv (k:=kvs[j].1) (v:=kvs[j].2) (aM hj);rw[hx]at hu;have ek:k=kvs[j].1:=congrArg Prod.fst (aQ hu);have e2:(kvs.map (·.1))[j]? =some k:=by rw[bf,aM hj,ek];rfl
  rw[hk,bf]at e2;cases e3:ns[j]? with
  |none=>rw[e3]at e2;cases e2
  |some n=>
   rw[e3]at e2;have e4:k=Sum.inl n:=(aQ e2).symm;subst e4;obtain⟨t,rfl⟩:=A1 (k:=n) (v:=v) hkey;exact⟨n,t,rfl,rfl⟩
 ·have I1:bJ X pins σ H {s with heap:=h',toks:=tk}:=I.kept k1;have hlen:(ns'.map V.int).length<=sizeLine:=by rw[ai,a2.length_eq,Rc];exact z
  exact⟨.ref _,upd H h'.objs.size (.lst (ns'.map V.int)),I1.laid (t':=tk) k2 (aq _) ⟨hlen,out.toList,c,pB a1,hD⟩,rfl,q ns' _ a2 a3 (I1.hok.fresh (aq _))⟩
def Sz:List V->Hp->VK->Prop:=fun vs H Q=>∃(a:Addr) (kvs:List (List Key×V)),vs=[V.ref a]/\Rd H a (.dT kvs)/\
 ∀(l:Addr) (qs:List Addr),H l=none->Paired (fun q (kv:List Key×V)=>H q=some (.tup (kv.1.map kV))) qs kvs->Q (.ref l) (upd H l (.lst (qs.map V.ref)))
theorem Rf{H:Hp} :∀{acc:List Value} {kvs:List (List Key×V)},acc.length=kvs.length->(∀(j:Nat) (v:Value),acc[j]? =some v->∃k x q,kvs[j]? =some (k,x)/\v=.ref q/\H q=some (.tup (k.map kV)))->
  ∃qs:List Addr,cC (qs.map V.ref) acc/\Paired (fun q (kv:List Key×V)=>H q=some (.tup (kv.1.map kV))) qs kvs
 |[],[],_,_=>⟨[],.nil,.nil⟩
 |[],_::_,h,_=>by cases h
 |_::_,[],h,_=>by cases h
 |v::acc,p::kvs,h,hv=>by
  obtain⟨k,x,q,e1,rfl,e2⟩:=hv 0 v rfl;cases e1;obtain⟨qs,h1,h2⟩:=Rf (Nat.succ.inj h) fun j u e=>hv (j+1) u e;exact⟨q::qs,.cons rfl h1,.cons e2 h2⟩
theorem Ms(hc:X.calm=true):lE X (.type "list") Sz:=by
 intro pins s σ H vs us Q I r h;obtain⟨a,kvs,rfl,hs,q⟩:=h;rw[cC.zh r];obtain⟨z,y,o,es,ep,ho,hx,hdt,hsz,ent⟩:=hs.dT I;refine PySem.W.kdl_call (Sy y hx hdt) (I.ok.hd hc) ho (by rw[hsz];exact z) fun h' tk acc c' k1 hD hacc=>?_;have Rc:acc.toList.length=kvs.length:=by rw[aJ,hacc.1,hsz]
 obtain⟨qs,r1,r2⟩:=Rf (H:=H) Rc fun j v e=>by
  obtain⟨en,e1,rfl⟩:=hacc.2 j v (by rw[<- jT];exact e);have hj:j<kvs.length:=by rw[<- hsz];exact(Array.getElem?_eq_some_iff.mp e1).1
  obtain⟨en',q,e2,e3,e4,_⟩:=ent j kvs[j].1 kvs[j].2 (aM hj);rw[e1]at e2;cases e2;exact⟨_,_,q,aM hj,e3,e4⟩
 have hlq:(qs.map V.ref).length<=sizeLine:=by rw[r1.length,Rc];exact z
 exact⟨.ref _,upd H s.heap.objs.size (.lst (qs.map V.ref)),I.laid (t':=tk) k1 (aq _) ⟨hlq,acc.toList,c',r1,hD⟩,rfl,q _ qs (I.hok.fresh (aq _)) r2⟩
end
end L2
namespace HT
open PySem PyProof.Rows
theorem Mt(A:Around)(s:Shared)(a:Int)(t:Tok)(c:Int)(u:Tok)(prog:Program)(w:World)(E:Value->Shared->Prop)(Q:Value->Shared->Prop)(h:Q (.bool (decide (c<a))) s):
  wpAny (model prog w) A (richCompare .Gt (.int a t) (.int c u)) Q E s:=
 (PyProof.Rows.gt_int h:wpAny (model prog w) A (compareOp .Gt (.int a t) (.int c u)) Q E s)
section
open PySem.SeqAt
open PySem.AutoSeq1 (wpAny_loadPart')
open PySem.MeetsSeq PySem.MeetsSeq2 PySem.MeetsSeq3
theorem Bg(l b:Addr)(items items2:Array Value)(n n2:Nat)(dd dd2:Option Addr)(sl sl2:Array (Option Value))(ns ms:List Int)(hi:IntsAre items.toList ns)(hj:IntsAre items2.toList ms):
  Meets (Builtin.«tuple.__gt__» ⟨[.ref l,.ref b],[]⟩)
   (fun _ R s=>s.heap.get? l=some {cls:=.type "tuple",dict:=dd,data:=.seq items n,slots:=sl} /\s.heap.get? b=some {cls:=.type "tuple",dict:=dd2,data:=.seq items2 n2,slots:=sl2} /\
    R (.ok (.ret (.bool (lexLt ms ns)))) s):=
 .of_wp fun prog w A R s h=>by
  obtain⟨hp,g,d,tk,os⟩:=s;obtain⟨hl,hb,h⟩:=h;have f2:=AutoSeq1.sub_tuple_tuple;have z1:items.size=ns.length:=by rw[<- hi.length];simp
  have z2:items2.size=ms.length:=by rw[<- hj.length];simp
  wp_walk using om hl,om hb,wpAny_forIn_list _ (fun rest b s'=>b.1=none/\s'=⟨hp,g,d,tk,os⟩/\∃(vs ws:List Value) (ns' ms':List Int),rest=vs.zip ws/\
   IntsAre vs ns'/\IntsAre ws ms'/\ns'.length+items2.size=ms'.length+items.size/\R (.ok (.ret (.bool (lexLt ms' ns')))) ⟨hp,g,d,tk,os⟩) _
  case turn=>
   rintro ⟨y,x⟩ rest b s' ⟨hb',rfl,vs,ws,ns',ms',hz,YN,hwi,hlen,hR⟩;cases YN with
   |nil=>rw[List.zip_nil_left]at hz;cases hz
   |cons a t YO=>
    cases hwi with
    |nil=>rw[List.zip_nil_right]at hz;cases hz
    |cons c u YQ=>
     rw[List.zip_cons_cons]at hz;injection hz with hyx hrest
     injection hyx with hy hx;subst hy hx;rw[pq]at hR;simp only[az]at hlen;obtain⟨e,he,hiff⟩:=LU A.in1 ⟨hp,g,d,tk,os⟩ a t c u;refine aa (he prog w _ _ ?_);cases e with
     |true=>
      rw[aB (hiff.mp rfl).symm]at hR
      wp_walk
      exact⟨rfl,rfl,_,_,_,_,hrest,YO,YQ,by omega,hR⟩
     |false=>
      rw[ao (fun q=>absurd (hiff.mpr q.symm) aU)]at hR;have hri:=Mt A.in1 ⟨hp,g,d,tk,os⟩ a t c u prog w
      wp_walk using hri
      exact⟨_,rfl,by simpa using hR⟩
  case fin=>
   rintro ⟨b1,b2⟩ s' ⟨hb',rfl,vs,ws,ns',ms',hz,YN,hwi,hlen,hR⟩;simp only at hb';subst hb';have hv:lexLt ms' ns'=decide (items2.size<items.size):=by
    cases YN with
    |nil=>
     cases hwi with
     |nil=>
      simp only[dj]at hlen;rw[Bd];exact(aK (by omega)).symm
     |cons c u hw=>
      simp only[dj,az]at hlen;rw[zg];exact(aK (by omega)).symm
    |cons a t hv=>
     cases hwi with
     |nil=>
      simp only[dj,az]at hlen;rw[zf];exact(aC (by omega)).symm
     |cons c u hw=>
      rw[List.zip_cons_cons]at hz;cases hz
   rw[hv]at hR
   wp_walk
   exact⟨_,rfl,by simpa[Builtin.Tuple.tupleCompareSizes]using hR⟩
  case h=>
   exact⟨rfl,rfl,items.toList,items2.toList,ns,ms,rfl,hi,hj,by omega,h⟩
end
section
variable{prog:Program}{w:World}{A:Around}{E:Value->Shared->Prop}{s:Shared}
theorem GZ{l b:Addr}{items items2:Array Value}{ns ms:List Int}{Q:Value->Shared->Prop}(hl:IsTup s.heap l items)(hb:IsTup s.heap b items2)(hi:IntsAre items.toList ns)(hj:IntsAre items2.toList ms)
  (hu:A.units<cLine) (h:Q (.bool (lexLt ms ns)) s):wpAny (model prog w) A (richCompare .Gt (.ref l) (.ref b)) Q E s:=by
 obtain⟨⟨cls,dd,data,sl⟩,ho,hc,n,hd⟩:=id hl;obtain⟨⟨abR,dd2,data2,sl2⟩,ho2,hc2,n2,hd2⟩:=id hb;simp only at hc hd hc2 hd2;subst hc hd hc2 hd2;exact richCompare_meets_room (op:=.Gt) ⟨_,ho,rfl⟩ ⟨_,ho2,rfl⟩ PySem.F.slot_tuple_gt PySem.F.entry_tuple_gt (PySem.F.args_tuple_gt_2 _ _) (Bg l b items items2 n n2 dd dd2 sl sl2 ns ms hi hj)
  ⟨ho,ho2,show Value.bool (lexLt ms ns)≠Value.notImplemented/\Q (.bool (lexLt ms ns)) s from⟨(fun x=>nomatch x),h⟩⟩ hu
end
end HT
namespace L2
open PySem PySem.Spec PyProof.Rows
def Mu(prog:Program)(w:World)(A:Around)(P:Nat->Value->Prop)(bt:Nat->Nat->Bool)(J:Heap->Prop):Prop:=
 ∀i j vi vj (s:Shared) (Q:Value->Shared->Prop) (E:Value->Shared->Prop),J s.heap->P i vi->P j vj->Q (.bool (bt i j)) s->wpAny (model prog w) A (richCompare .Gt vi vj) Q E s
section
variable{prog:Program}{w:World}{A:Around}{R:Result->Shared->Prop}{I:Addr}{fp wr:List Addr}{n:Nat}{P:Nat->Value->Prop}{St:Nat->Heap->Prop}{J:Heap->Prop}
theorem Ka{kw:List (Str×Value)}(W:Walks prog w A.in1 I fp wr n P St)(bt:Nat->Nat->Bool)(hcmp:Mu prog w A.in1 P bt J)(S:Addr)(hSf:S∉fp)(hJ:∀h h',J h->(∀b o,b∉wr->b≠S->h.get? b=some o->h'.get? b=some o)->J h'):
  ∀(k j:Nat) (s:Shared) (vb:Value) (c:Nat),n-(j+1)=k->j+1<=n->St (j+1) s.heap->J s.heap->P (argBest bt j) vb->
  s.heap.get? S=some {cls:=.type "list",dict:=none,data:=.seq #[vb,vb] c,slots:= #[]} ->
  (∀v h' tk,P (argBest bt (n-1)) v->(∀b o,b∉wr->b≠S->s.heap.get? b=some o->h'.get? b=some o)->R (.ok (.ret v)) {s with heap:=h',toks:=tk})->
  codeAny (model prog w) A (.builtin "max.loop" ⟨[.ref I,.none,.ref S],kw⟩) R s:=by
 have VI:S∉wr:=fun h=>hSf (W.sub _ h);have hname:(toString "max"++toString ".loop" :String)="max.loop":=by decide
 intro k;induction k with
 |zero=>
  intro j s vb c hk hj hst US XD hS hR;have hin:j+1=n:=by omega
  refine jV CI ?_;rw[lR eZ _];show wpAny _ A.in1 (seqItems? (.ref S) >>=_) _ _ s;refine aa (fZ hS rfl ?_);show wpAny _ A.in1 (tryCatch (pyNext (.ref I)) _ >>=_) _ _ s;refine aa (yd (W.done s _ _ (hin ▸ hst) fun h' tk hk'=>?_));have hS':=hk' S _ VI hS;show wpAny _ A.in1 (updateSeq S (fun _=> #[]) >>=_) _ _ _;refine aa ?_;refine wpAny_updateSeq hS' rfl (aa (lO (ak ?_)));refine hR vb _ tk (by rw[<- hin];exact XD) fun b o IF Kc e=>(bO _ _ (bP Kc)).trans (hk' b o IF e)
 |succ k ih=>
  intro j s vb c hk hj hst US XD hS hR;have hlt:j+1<n:=by omega
  refine jV CI ?_;rw[lR eZ _];show wpAny _ A.in1 (seqItems? (.ref S) >>=_) _ _ s;refine aa (fZ hS rfl ?_);show wpAny _ A.in1 (tryCatch (pyNext (.ref I)) _ >>=_) _ _ s;refine aa (yd (W.item (j+1) s _ _ hlt hst fun v h' tk hP Pf hk'=>?_));have hS':=hk' S _ VI hS;have hJ':J h':=hJ _ _ US fun b o hb _ e=>hk' b o hb e;show wpAny _ A.in1 (tryCatch (holding [v,v] (richCompare .Gt v vb >>=_)) _ >>=_) _ _ _;refine aa (yd (dB (aa (hcmp (j+1) (argBest bt j) v vb _ _ _ hJ' hP XD ?_))));refine aa (dB (eF ?_));refine aa (lO (ak ?_));cases hb:bt (j+1) (argBest bt j)with
  |true=>
   simp only[lu];refine aa ?_;refine wpAny_updateSeq hS' rfl (aa (lO ?_));rw[hname];refine ak ⟨nQ eZ _,ih (j+1) _ v _ (by omega) hlt (W.frame _ _ _ Pf fun b YR o e=>?_) (hJ _ _ hJ' fun b o _ Kc e=>(bO _ _ (bP Kc)).trans e) (by simp only[argBest,hb,lu];exact hP) (cU _ hS' rfl)
    fun v' h'' Mv SA Mw=>?_⟩
   ·exact(bO _ _ (fun h:S=b=>hSf (by rw[h];exact YR))).trans e
   ·exact hR v' h'' Mv SA fun b o IF Kc e=>Mw b o IF Kc ((bO _ _ (bP Kc)).trans (hk' b o IF e))
  |false=>
   simp only[i8,nh];refine aa (lO ?_);rw[hname];refine ak ⟨nQ eZ _,ih (j+1) _ vb c (by omega) hlt Pf hJ' (by simp only[argBest,hb,i8,nh];exact XD) hS' fun v' h'' Mv SA Mw=>?_⟩;exact hR v' h'' Mv SA fun b o IF Kc e=>Mw b o IF Kc (hk' b o IF e)
theorem zy{kw:List (Str×Value)}(W:Walks prog w A.in1 I fp wr n P St)(bt:Nat->Nat->Bool)(hcmp:Mu prog w A.in1 P bt J)(S:Addr)(hSf:S∉fp)(hJ:∀h h',J h->(∀b o,b∉wr->b≠S->h.get? b=some o->h'.get? b=some o)->J h')(hn:0<n){s:Shared}{c:Nat}(hst:St 0 s.heap)(US:J s.heap)
  (hS:s.heap.get? S=some {cls:=.type "list",dict:=none,data:=.seq #[] c,slots:= #[]})
  (hR:∀v h' tk,P (argBest bt (n-1)) v->(∀b o,b∉wr->b≠S->s.heap.get? b=some o->h'.get? b=some o)->R (.ok (.ret v)) {s with heap:=h',toks:=tk}):
  codeAny (model prog w) A (.builtin "max.loop" ⟨[.ref I,.none,.ref S],kw⟩) R s:=by
 have VI:S∉wr:=fun h=>hSf (W.sub _ h);have hname:(toString "max"++toString ".loop" :String)="max.loop":=by decide
 refine jV CI ?_;rw[lR eZ _];show wpAny _ A.in1 (seqItems? (.ref S) >>=_) _ _ s;refine aa (fZ hS rfl ?_);show wpAny _ A.in1 (tryCatch (pyNext (.ref I)) _ >>=_) _ _ s;refine aa (yd (W.item 0 s _ _ hn hst fun v h' tk hP Pf hk'=>?_));have hS':=hk' S _ VI hS;have hJ':J h':=hJ _ _ US fun b o hb _ e=>hk' b o hb e;show wpAny _ A.in1 (updateSeq S (fun _=> #[v,v]) >>=_) _ _ _;refine aa ?_;refine wpAny_updateSeq hS' rfl ?_;rw[hname];refine ak ⟨nQ eZ _,Ka W bt hcmp S hSf hJ _ 0 _ v _ rfl hn (W.frame _ _ _ Pf fun b YR o e=>?_) (hJ _ _ hJ' fun b o _ Kc e=>(bO _ _ (bP Kc)).trans e) hP (cU _ hS' rfl) fun v' h'' Mv SA Mw=>?_⟩
 ·exact(bO _ _ (fun h:S=b=>hSf (by rw[h];exact YR))).trans e
 ·exact hR v' h'' Mv SA fun b o IF Kc e=>Mw b o IF Kc ((bO _ _ (bP Kc)).trans (hk' b o IF e))
theorem Mx{d:Value}(W:Walks prog w A.in1 I fp wr 0 P St)(S:Addr)(hSf:S∉fp){s:Shared}{c:Nat}(hst:St 0 s.heap)
  (hS:s.heap.get? S=some {cls:=.type "list",dict:=none,data:=.seq #[] c,slots:= #[]})
  (hR:∀h' tk,(∀b o,b∉wr->b≠S->s.heap.get? b=some o->h'.get? b=some o)->R (.ok (.ret d)) {s with heap:=h',toks:=tk}):
  codeAny (model prog w) A (.builtin "max.loop" ⟨[.ref I,.none,.ref S],[(("default" :Str),d)]⟩) R s:=by
 have VI:S∉wr:=fun h=>hSf (W.sub _ h);refine jV CI ?_;rw[lR eZ _];show wpAny _ A.in1 (seqItems? (.ref S) >>=_) _ _ s;refine aa (fZ hS rfl ?_);show wpAny _ A.in1 (tryCatch (pyNext (.ref I)) _ >>=_) _ _ s;refine aa (yd (W.done s _ _ hst fun h' tk hk'=>?_));refine aa (ou ?_);exact ak (hR h' tk fun b o hb _ e=>hk' b o hb e)
end
section
variable{prog:Program}{w:World}{A:Around}{E:Value->Shared->Prop}{s:Shared}
theorem C2{id:String}{b:Builtin}{args:List Value}{kw:List (Str×Value)}{Q:Value->Shared->Prop}(hk:builtinKind id=none)(hp:plainId id=true)
  (hb:entryFor table id=some b) (ha:argsOk id ⟨args,kw⟩)
  (hc:wpAny (model prog w) A.in1 (b ⟨args,kw⟩) (fun fin s'=>match fin with
   | .done f=>(match (Except.ok f:Result)with| .ok (.ret v)=>Q v s'| .ok _=>False| .error e=>E e s')
   | .again c'=>c'.quiet=true/\codeAny (model prog w) A c' (fun r s'=>match r with| .ok (.ret v)=>Q v s'| .ok _=>False| .error e=>E e s') s') E s):
  wpAny (model prog w) A (call (.builtin id) args kw) Q E s:=by
 refine ow (f6 hp hb ?_);simp only[checkBuiltinCall,hk];cases YS:Manifest.signature? id with
 |none=>exact ak hc
 |some sig=>
  have ha':Bind.checkArgs id sig ⟨args,kw⟩=pure ():=by simpa only[argsOk,YS]using ha
  simp only[ha'];exact ak hc
theorem Bh(a v:Value):argsOk "max" ⟨[a],[(("default" :Str),v)]⟩:=by unfold argsOk;kernel_rfl
theorem Bj(d:Value):Builtin.Builtins.bindParams "max" ["key","default"] 0 ⟨[],[(("default" :Str),d)]⟩=pure [none,some d]:=rfl
theorem Bk{x d:Value}{Q:Value->Shared->Prop}
  (h:wpAny (model prog w) A.in1 (pyIter x) (fun it s₂=>∃I fp wr n P St,it=.ref I/\Walks prog w A.in1 I fp wr n P St/\St 0 s₂.heap/\(∀b∈fp,b<s₂.heap.objs.size)/\
   ((n=0/\∀h' tk,(∀b o,b∉wr->s₂.heap.get? b=some o->h'.get? b=some o)->Q d {s₂ with heap:=h',toks:=tk})\/
    (0<n/\∃bt,CmpOf prog w A.in1 .Gt P bt/\∀v h' tk,P (argBest bt (n-1)) v->(∀b o,b∉wr->s₂.heap.get? b=some o->h'.get? b=some o)->Q v {s₂ with heap:=h',toks:=tk}))) E s):
  wpAny (model prog w) A (call (.builtin "max") [x] [(("default" :Str),d)]) Q E s:=by
 have hname:(toString "max"++toString ".loop" :String)="max.loop":=by decide
 refine C2 F.kind_max F.plain_max F.entry_max (Bh _ _) ?_;show wpAny _ A.in1 (Builtin.Builtins.bindParams "max" ["key","default"] 0 ⟨[],[(("default" :Str),d)]⟩ >>=_) _ _ s;refine aa (jM (Bj d) ?_);refine aa (ak ?_);refine aa (di h (fun it s₂ h₂=>?_) fun _ _ e=>e);obtain⟨I,fp,wr,n,P,St,rfl,W,hst,hfp,hq⟩:=h₂;refine aa (cG ?_);have hSf:s₂.heap.objs.size∉fp:=fun hm=>cV _ (hfp _ hm);rw[hname];have st2:=W.frame _ _ _ hst fun b _ o e=>af ({cls:=.type "list",data:=.seq #[]} :Obj) e;rcases hq with⟨rfl,hq⟩|⟨hn,bt,hcmp,hq⟩
 ·refine ak ⟨nQ eZ _,Mx W s₂.heap.objs.size hSf st2 (aE _ rfl) fun h' tk hk=>?_⟩;exact hq h' tk fun b o IF e=>hk b o IF (aT (aF e)) (af _ e)
 ·refine ak ⟨nQ eZ _,zy (J:=fun _=>True) W bt (fun i j vi vj s Q E _ h1 h2 h3=>hcmp i j vi vj s Q E h1 h2 h3) s₂.heap.objs.size hSf (fun _ _ _ _=>trivial) hn st2 trivial (aE _ rfl) fun v h' tk hP hk=>?_⟩;exact hq v h' tk hP fun b o IF e=>hk b o IF (aT (aF e)) (af _ e)
theorem Kd{d:Addr}{o:Obj}{es:Array DictEntry}{ep:Nat}{Q:Value->Shared->Prop}(hh:A.handled=none)(lo:(d==sysModules)=false)(ho:s.heap.get? d=some o)(hx:o.ExactDict)(hdat:o.data=.dict es ep)(hn:0<es.size)
  (bt:Nat->Nat->Bool) (J:Heap->Prop) (hcmp:Mu prog w A.in1 (fun i v=>∃en,es[i]? =some en/\v=en.key) bt J) (hJ:∀h h',J h->(∀b o,b<s.heap.objs.size->h.get? b=some o->h'.get? b=some o)->J h') (US:J s.heap)
  (h:∀v h' tk,(∃en,es[argBest bt (es.size-1)]? =some en/\v=en.key)->(∀b o,s.heap.get? b=some o->h'.get? b=some o)->Q v {s with heap:=h',toks:=tk}):
  wpAny (model prog w) A (call (.builtin "max") [.ref d]) Q E s:=by
 have hname:(toString "max"++toString ".loop" :String)="max.loop":=by decide
 refine call_function_tree F.kind_max F.plain_max F.entry_max (F.args_max1 _) ?_;show wpAny _ A.in1 (Builtin.Builtins.bindParams "max" ["key","default"] 0 ⟨[],[]⟩ >>=_) _ _ s;refine aa (jM (show Builtin.Builtins.bindParams "max" ["key","default"] 0 ⟨[],[]⟩=pure [none,none]from rfl) ?_);refine aa (ak ?_);refine aa (wM lo ho hx hdat ?_);have hlt:=aF ho;have W:=EN (prog:=prog) (w:=w) (A:=A.in1) (d:=d) hh s.heap.objs.size (aT hlt) hdat;refine aa (cG ?_);generalize VJ:({cls:=.type "dict_keyiterator",data:=.fields #[.ref d,.int 0 0,.int es.size 0,.int ep 0]} :Obj)=oI;have YT:(s.heap.push oI).objs.size=s.heap.objs.size+1:=size_push' _ _;show wpAny _ A.in1 _ _ _ {s with heap:=(s.heap.push oI).push {cls:=.type "list",data:=.seq #[]}};rw[hname];have hSf:(s.heap.push oI).objs.size∉[s.heap.objs.size,d]:=by
  rw[YT];simp only[iL,List.not_mem_nil,or_false,not_or];exact⟨Nat.succ_ne_self _,dz (fS hlt)⟩
 have kp:∀b u,s.heap.get? b=some u->((s.heap.push oI).push {cls:=.type "list",data:=.seq #[]}).get? b=some u:=fun b u e=>af _ (af _ e);have hI:((s.heap.push oI).push {cls:=.type "list",data:=.seq #[]}).get? s.heap.objs.size=some oI:=af _ (aE _ (by rw[<- VJ];rfl));refine ak ⟨nQ eZ _,zy (J:=J) W bt hcmp (s.heap.push oI).objs.size hSf (fun h1 h2 j k=>hJ h1 h2 j fun b o hb e=>k b o ?_ ?_ e) hn ⟨⟨oI,hI,by rw[<- VJ],by rw[<- VJ];rfl⟩,kp _ _ ho⟩ (hJ _ _ US fun b o _ e=>kp b o e) (aE _ rfl) fun v h' tk hP hk=>?_⟩
 ·simp only[iL,List.not_mem_nil,or_false];exact aT hb
 ·rw[YT];exact aT (fS hb)
 ·refine h v h' tk hP fun b o e=>hk b o ?_ ?_ (kp b o e)
  ·simp only[iL,List.not_mem_nil,or_false];exact aT (aF e)
  ·rw[YT];exact aT (fS (aF e))
end
section
variable{X:Cx}
def VL(K:PySem.W.Frag)(ta tk:TA):TE:=fun σ H Q=>ta σ H fun vs H1=>tk σ H1 fun zs H2=>∃(a:Addr) (ns:List Int) (v:V),vs=[V.ref a]/\zs=[v]/\cI K H2 a (ns.map V.int)/\(ns=[]->Q v H2)/\∀m,m∈ns->(∀y,y∈ns->y<=m)->Q (.int m) H2
theorem IG{e d:Expr}{ta tk:TA}{p pos kp:Pos}(hc:X.calm=true)(hg:Gl X "max")(hm:X.mg "max"=none)(ha:PA X [e] ta)(hkw:PK X [⟨some "default",d,kp⟩] tk)
  (he:backTo pos (starEach [e] X.env)=(false,eval e X.env)::backTo pos (starEach [] X.env):=by rfl) (hpl:(backTo pos (starEach [e] X.env)).any (·.1)=false:=by rfl):
  PE X (.Call (.Name "max" p) [e] [⟨some "default",d,kp⟩] pos) (VL X.K ta tk):=by
 intro pins s σ H Q I h;refine fL (qw I hg hm boot_max ?_);refine callWith_kw (dI (ha pos pins s σ H _ I h) fun us s1 ⟨vs,H1,I1,r1,q1⟩=>dI (hkw pos pins s1 σ H1 _ I1 q1) fun ws s2 eT=>?_) he hpl;obtain⟨zs,H2,I2,r2,a,ns,v,e1,e2,hs,h0,h1⟩:=eT;subst e1 e2;obtain⟨u,rfl,rv⟩:=vals1 r2;rw[cC.zh r1];obtain⟨its,rv',hl,_⟩:=I2.list hs;have hi:=rv'.ints;obtain⟨xs,ex⟩:=hi.allInts.items;have hn:numsOf (intItems xs).toList=ns:=by rw[<- ex];exact hi.numsOf
 rw[nums_intItems]at hn;have hl':=hl.isList;rw[ex]at hl';show wpAny _ _ (call (.builtin "max") [.ref a] [(("default" :Str),u)]) _ _ s2;refine Bk (iter_intList hl' fun s₂ e2 st hfp hlI=>?_);subst e2;refine⟨_,_,_,_,_,_,rfl,Walks.list (A:=X.A.in1) (I.ok.hd hc) _ a hlI (intItems xs),st,hfp,?_⟩;by_cases hz:xs.size=0
 ·have e0:ns=[]:=by rw[<- hn];exact cZ (by rw[ai,aJ];exact hz)
  exact .inl ⟨by simpa[intItems]using hz,fun h' tk hk=>⟨v,H2,I2.kept (old_kept hk),rv,h0 e0⟩⟩
 ·refine .inr ⟨by simpa[intItems]using Nat.pos_of_ne_zero hz,_,CmpOf.ints_gt (numAt xs) (fun _ _=>intItems_at),fun v' h' tk hP hk=>?_⟩;have hsz:0<xs.size:=Nat.pos_of_ne_zero hz;have SA:(intItems xs)[argBest (fun i j=>decide (numAt xs i > numAt xs j)) (xs.size-1)]? =some v':=by simpa[intItems]using hP
  obtain⟨t,rfl⟩:=intItems_at SA;obtain⟨g1,g2⟩:=argBest_gt (numAt xs) (xs.size-1);refine⟨.int _,H2,I2.kept (old_kept hk),⟨_,rfl⟩,h1 _ ?_ fun y hy=>?_⟩
  ·rw[numAt_eq,hn];exact PySem.getD_mem (by rw[<- hn,ai,aJ];omega)
  ·rw[<- hn]at hy;obtain⟨j,hj,rfl⟩:=mem_getD hy;rw[ai,aJ]at hj;rw[<- numAt_eq];exact g2 j (by omega)
def VM:List V->Hp->VK->Prop:=fun vs H Q=>∃(a:Addr) (kvs:List (List Key×V)) (ns:List Int) (nss:List (List Int)),vs=[V.ref a]/\Rd H a (.dT kvs)/\kvs.map (·.1)=(ns::nss).map (·.map Sum.inl)/\
 (∀ms,ms∈nss->HT.lexLt ns ms=false)/\∀q,H q=some (.tup (ns.map V.int))->Q (.ref q) H
theorem tP{bt:Nat->Nat->Bool} :∀k,(∀j,j<=k->0<j->bt j 0=false)->argBest bt k=0
 |0,_=>rfl
 |k+1,h=>by
  have ih:=tP k fun j hj h0=>h j (nV hj) h0;show(if bt (k+1) (argBest bt k)=true then k+1 else argBest bt k)=0;rw[ih,h (k+1) (aq _) (Nat.succ_pos _)];rfl
theorem Pg(hc:X.calm=true)(hu:X.A.units+64<cLine):lE X (.builtin "max") VM:=by
 intro pins s σ H vs us Q I r h;obtain⟨a,kvs,ns,nss,rfl,hs,hk,hmx,q⟩:=h;rw[cC.zh r];obtain⟨z,y,o,es,ep,ho,hx,hdt,hsz,ent⟩:=hs.dT I;have Rc:kvs.length=nss.length+1:=by have:=congrArg List.length hk;simpa using this
 have key:∀(i:Nat) (en:DictEntry),es[i]? =some en->∃(ms:List Int) (qa:Addr),(ns::nss)[i]? =some ms/\en.key=.ref qa/\H qa=some (.tup (ms.map V.int)):=fun i en e=>by
  have hi:i<kvs.length:=by rw[<- hsz];exact(Array.getElem?_eq_some_iff.mp e).1
  obtain⟨en',qa,e2,e3,e4,_⟩:=ent i kvs[i].1 kvs[i].2 (aM hi);rw[e]at e2;cases e2;have e5:(kvs.map (·.1))[i]? =some kvs[i].1:=by rw[bf,aM hi];rfl
  rw[hk,bf]at e5;cases e6:(ns::nss)[i]? with
  |none=>rw[e6]at e5;cases e5
  |some ms=>
   rw[e6]at e5;refine⟨ms,qa,rfl,e3,?_⟩;rw[<- aQ e5]at e4;rw[e4,cX];rfl
 let bt:Nat->Nat->Bool:=fun i j=>HT.lexLt ((ns::nss).getD j []) ((ns::nss).getD i [])
 have hb0:argBest bt (es.size-1)=0:=tP _ fun j hj h0=>by
  obtain⟨i,rfl⟩:∃i,j=i+1:=⟨j-1,by omega⟩
  have hi:i<nss.length:=by omega
  show HT.lexLt ns ((ns::nss).getD (i+1) [])=false;rw[List.getD_cons_succ,kZ,aM hi];exact hmx _ (List.getElem_mem hi)
 refine Kd (I.ok.hd hc) y ho hx hdt (by omega) bt (fun h=>∀(i:Nat) (en:DictEntry),es[i]? =some en->∃(ms:List Int) (qa:Addr) (its:Array Value),(ns::nss)[i]? =some ms/\en.key=.ref qa/\qa<s.heap.objs.size/\IsTup h qa its/\IntsAre its.toList ms)
  ?_ ?_ ?_ fun v h' tk hv hkp=>?_
 ·rintro i j vi vj s' Q' E' hJ ⟨en,e1,rfl⟩ ⟨en2,e2,rfl⟩ hq;obtain⟨ms,qa,its,g1,g2,_,g3,g4⟩:=hJ i en e1;obtain⟨ms2,qa2,its2,k1,k2,_,k3,k4⟩:=hJ j en2 e2;rw[g2,k2];have e3:(ns::nss).getD i []=ms:=by rw[kZ,g1];rfl
  have e4:(ns::nss).getD j []=ms2:=by rw[kZ,k1];rfl
  refine HT.GZ g3 k3 g4 k4 (by show X.A.units+1<cLine;omega) ?_;have:bt i j=HT.lexLt ms2 ms:=by show HT.lexLt _ _=_;rw[e3,e4]
  rw[<- this];exact hq
 ·intro h1 h2 hJ hkk i en e;obtain⟨ms,qa,its,g1,g2,g5,⟨ob,g3,g6⟩,g4⟩:=hJ i en e;exact⟨ms,qa,its,g1,g2,g5,⟨ob,hkk qa ob g5 g3,g6⟩,g4⟩
 ·intro i en e;obtain⟨ms,qa,g1,g2,g3⟩:=key i en e;obtain⟨its,r2,p2,_⟩:=I.tuple (lD.of g3);exact⟨ms,qa,_,g1,g2,p2.lt,p2,L2.intsAre_of r2⟩
 ·obtain⟨en,e1,rfl⟩:=hv;rw[hb0]at e1;obtain⟨ms,qa,g1,g2,g3⟩:=key 0 en e1;cases g1;rw[g2];exact⟨.ref qa,H,I.kept hkp,rfl,q qa g3⟩
end
section
variable{prog:Program}{w:World}{A:Around}{E:Value->Shared->Prop}{s:Shared}
theorem G0{a:Addr}{ob:Obj}{es:Array DictEntry}{ep:Nat}{R:Result->Shared->Prop}(na:(a==sysModules)=false)(g1:s.heap.get? a=some ob)(g2:ob.ExactDict)(g3:ob.data=.dict es ep)
  (h:R (.ok (.ret (.ref s.heap.objs.size))) {s with heap:=s.heap.push {cls:=.type "dict_items",data:=.fields #[.ref a]}}):
  wpAny (model prog w) A (Builtin.«dict.items» ⟨[.ref a],[]⟩) (fun fin s'=>∃v,fin=.done (.ret v)/\R (.ok (.ret v)) s') (fun e s'=>R (.error e) s') s:=by
 unfold Builtin.«dict.items»;refine aa ?_;unfold Builtin.Dict.noArgs;refine aa (Gx ⟨ob,g1,g2.1⟩ ?_);show wpAny _ _ (pure a) _ _ s;refine ak ?_;show wpAny _ _ (Builtin.Dict.showsAll a >>=_) _ _ s;unfold Builtin.Dict.showsAll;rw[ao (by rw[na];exact aU)];exact aa (ak (aa (cG (ak ⟨_,rfl,h⟩))))
theorem G3{v a:Addr}{ob:Obj}{es:Array DictEntry}{ep:Nat}{Q:Value->Shared->Prop}(hv:s.heap.IsItemsView v a)(g1:s.heap.get? a=some ob)(g3:ob.data=.dict es ep)
  (h:Q (.ref s.heap.objs.size) {s with heap:=s.heap.push {cls:=.type "dict_itemiterator",data:=.fields #[.none,.bool false,.ref a,.int 0 0,.int es.size 0,.int ep 0,.none,.none]}}):
  wpAny (model prog w) A (pyIter (.ref v)) Q E s:=by
 obtain⟨vo,v1,v2,v3⟩:=id hv;have tk:Builtin.Dict_items.ownsTuple "dict_itemiterator"=true:=by decide
 refine qf hv.typeIs F.slot_dict_items_iter (bU F.slot_dict_items_iter hv.typeIs F.entry_dict_items_iter ?_ (F.args_dict_items_iter_1 _));unfold Builtin.«dict_items.__iter__»;refine aa (ak (aa ?_));unfold Builtin.Dict_items.dictOf;refine aa (cA v1 v3 (x:=.ref a) rfl (ak (aa ?_)));unfold Builtin.Dict_items.newIterator;refine aa (dH g1 g3 (aa (iK g1 g3 ?_)));simp only[tk,lu];refine cG (ak ⟨_,rfl,"dict_itemiterator",_,⟨_,aE _ rfl,rfl⟩,F.slot_dict_itemiterator_next.lookup,?_⟩)
  (by simp only[sizeOk,Builtin.Dict_items.ownedTupleFields,bG,au,az,dj,jN];omega)
 simpa[rawInt,Builtin.Dict_items.ownedTupleFields]using h
theorem C3{I a:Addr}{j ep:Nat}{ob:Obj}{es:Array DictEntry}{en:DictEntry}{k0 v0:Value}{Q:Option Value->Shared->Prop}(ii:IsItemIter s.heap I a j es.size ep k0 v0)(g1:s.heap.get? a=some ob)(g3:ob.data=.dict es ep)(gx:es[j]? =some en)
  (h:∀h',IsItemIterOut h' I a (j+1) es.size ep en.key en.val s.heap.objs.size->h'.get? s.heap.objs.size=some {cls:=.type "tuple",data:=.seq #[en.key,en.val]} ->h'.objs.size=s.heap.objs.size+1->
   (∀b o,b≠I->s.heap.get? b=some o->h'.get? b=some o)->Q (some (.ref s.heap.objs.size)) {s with heap:=h'}):wpAny (model prog w) A (pyNext (.ref I)) Q E s:=by
 obtain⟨hp,gs,dw,tk,os⟩:=s;have ty:Shared.TypeIs ⟨hp,gs,dw,tk,os⟩ (.ref I) "dict_itemiterator":=⟨_,ii,rfl⟩
 have tt:Builtin.Dict_items.ownsTuple "dict_itemiterator"=true:=by decide
 obtain⟨jl,je⟩:=Array.getElem?_eq_some_iff.mp gx;unfold pyNext;refine aa (gM (bZ (name:=Str.ofString "__next__") ty jO (bU jO ty F.entry_dict_itemiterator_next ?_ (F.args_dict_itemiterator_next_1 _))));refine aa (ak (aa (aa ?_)))
 first|refine aa (jq ty (ak ?_))|refine aa (ng ty (ak ?_))
 refine aa (qh ii rfl ?_);simp only[tt,lu];show wpAny _ _ (if(Value.ref a==Value.none)=true then _ else _) _ _ _;rw[ao (show ¬((Value.ref a==Value.none)=true)from aU)];refine aa (ak (aa (dH g1 g3 ?_)));rw[ao (by simp)];refine aa (ak (aa (iK g1 g3 ?_)));rw[ao (by simp)];refine ak ?_;simp only[show ¬((j:Int)<0)from by omega,nh,cJ,cz jl];refine aa ?_
 first|refine aa (jq ty (ak ?_))|refine aa (ng ty (ak ?_))
 refine aa (Eg ty ?_);show wpAny _ _ (setField (.ref I) 3 (rawInt ((j:Int)+1)) >>=_) _ _ ⟨hp,gs,dw,tk,os⟩;refine aa (bQ ii (by simp) fun m1 e1 s1=>?_)
 replace s1:Heap.SameBut I hp m1:=s1
 replace e1:IsItemIter m1 I a (j+1) es.size ep k0 v0:=by
  have z:((j+1:Nat):Int)=(j:Int)+1:=by omega
  unfold IsItemIter;rw[z];simpa[rawInt]using e1
 have YU:Shared.TypeIs ⟨m1,gs,dw,tk,os⟩ (.ref I) "dict_itemiterator":=⟨_,e1,rfl⟩
 refine aa (dB (aa (Eg YU (aa (Eg YU ?_)))));show wpAny _ _ (Builtin.Dict_items.pairFromOwner (.ref I) 6 es[j].key es[j].val) _ _ ⟨m1,gs,dw,tk,os⟩;rw[je];unfold Builtin.Dict_items.pairFromOwner;refine aa (wpAny_newTuple ?_);have e2:IsItemIter (m1.push {cls:=.type "tuple",data:=.seq #[en.key,en.val]}) I a (j+1) es.size ep k0 v0:=af _ e1;generalize hm2:m1.push {cls:=.type "tuple",data:=.seq #[en.key,en.val]} =m2 at e2;have z1:m1.objs.size=hp.objs.size:=s1.1;have il:I<hp.objs.size:=aF ii;have t2:m2.get? hp.objs.size=some {cls:=.type "tuple",data:=.seq #[en.key,en.val]}:=by rw[<- hm2, <- z1];exact aE _ rfl
 have z2:m2.objs.size=hp.objs.size+1:=by rw[<- hm2,bT,z1]
 have kp2:∀b o,b≠I->hp.get? b=some o->m2.get? b=some o:=fun b o nb q=>by rw[<- hm2];exact af _ (s1.extBut b o nb q)
 show wpAny _ _ (Builtin.Dict_items.ownedTupleIsFree (.ref I) >>=_) _ _ ⟨m2,gs,dw,tk,os⟩;rw[z1]
 clear hm2 e1 s1 YU z1 m1
 refine aa ?_;unfold Builtin.Dict_items.ownedTupleIsFree;refine aa (cA e2 rfl (x:=.none) rfl (ak ?_));simp only[lu];refine aa (cA e2 rfl (x:=k0) rfl (aa (cA e2 rfl (x:=v0) rfl ?_)));refine aa (bQ e2 (by simp) fun m3 e3 s3=>?_)
 replace s3:Heap.SameBut I m2 m3:=s3
 replace e3:IsItemIter m3 I a (j+1) es.size ep en.key v0:=e3
 refine aa (bQ e3 (by simp) fun m4 e4 s4=>?_)
 replace s4:Heap.SameBut I m3 m4:=s4
 replace e4:IsItemIter m4 I a (j+1) es.size ep en.key en.val:=e4
 refine aa (bQ e4 (by simp) fun m5 e5 s5=>?_)
 replace s5:Heap.SameBut I m4 m5:=s5
 replace e5:IsItemIterOut m5 I a (j+1) es.size ep en.key en.val hp.objs.size:=e5
 refine aa (bQ e5 (by simp) fun m6 e6 s6=>?_)
 replace s6:Heap.SameBut I m5 m6:=s6
 replace e6:IsItemIterOut m6 I a (j+1) es.size ep en.key en.val hp.objs.size:=e6
 have up:∀b o,b≠I->m2.get? b=some o->m6.get? b=some o:=fun b o nb q=>s6.extBut b o nb (s5.extBut b o nb (s4.extBut b o nb (s3.extBut b o nb q)));refine aa (lO (ak (ak ⟨_,rfl,ak (h m6 e6 (up _ _ (dz il) t2) ?_ fun b o nb q=>up b o nb (kp2 b o nb q))⟩)));show m6.objs.size=hp.objs.size+1;rw[s6.1,s5.1,s4.1,s3.1,z2]
theorem Bl{I a:Addr}{j ep:Nat}{ob:Obj}{es:Array DictEntry}{k0 v0:Value}{Q:Option Value->Shared->Prop}(hh:A.handled=none)(ii:IsItemIter s.heap I a j es.size ep k0 v0)(g1:s.heap.get? a=some ob)(g3:ob.data=.dict es ep)(gx:es.size<=j)
  (h:∀h',Heap.ExtBut I s.heap h'->Q none {s with heap:=h'}):wpAny (model prog w) A (pyNext (.ref I)) Q E s:=by
 have ty:s.TypeIs (.ref I) "dict_itemiterator":=⟨_,ii,rfl⟩
 have tt:Builtin.Dict_items.ownsTuple "dict_itemiterator"=true:=by decide
 unfold pyNext;refine aa (gM (bZ (name:=Str.ofString "__next__") ty jO (bU jO ty F.entry_dict_itemiterator_next ?_ (F.args_dict_itemiterator_next_1 _))));refine aa (ak (aa (aa ?_)))
 first|refine aa (jq ty (ak ?_))|refine aa (ng ty (ak ?_))
 refine aa (qh ii rfl ?_);simp only[tt,lu];show wpAny _ _ (if(Value.ref a==Value.none)=true then _ else _) _ _ s;rw[ao (show ¬((Value.ref a==Value.none)=true)from aU)];refine aa (ak (aa (dH g1 g3 ?_)));rw[ao (by simp)];refine aa (ak (aa (iK g1 g3 ?_)));rw[ao (by simp)];refine ak ?_;simp only[show ¬((j:Int)<0)from by omega,nh,cJ,jx gx];refine aa ?_
 first|refine aa (jq ty (ak ?_))|refine aa (ng ty (ak ?_))
 show wpAny _ _ (setField (.ref I) 2 .none >>=_) _ _ s;refine aa (jr ii rfl (by simp) ?_);show wpAny _ _ (newExc (.type "StopIteration") [] >>=_) _ _ _;refine aa ?_;simp only[newExc,newTuple];refine aa (cG ?_ (by size_fits));refine aa (m:=firstArgMember _ _) (jM (a:=Value.none) (by first|rfl|(simp only[firstArgMember];rfl)) ?_);refine cG ?_ (by size_fits);simp only[raiseNew];refine aa (wpAny_handled ?_);rw[show A.in1.handled=none from hh];refine aa (ak (wpAny_throw ?_));refine aa (dZ (b:=true) (T:="StopIteration") ⟨_,aE _ rfl,rfl⟩ ye ?_);exact ak (h _ (((ee ..).extBut.push _).push _))
end
def VN(d:Addr)(o:Obj)(kvs:List (List Key×V)):It:=
 ⟨fun i H=>H d=some (.jy o (.dT kvs))/\i<kvs.length,fun i H x H'=>∃T k v q,kvs[i]? =some (k,v)/\x=.ref T/\H T=none/\H q=some (.tup (k.map kV))/\H'=upd H T (.tup [.ref q,v]),fun i H=>H d=some (.jy o (.dT kvs))/\kvs.length<=i⟩
theorem EO{P:Program}{w:World}{K:PySem.W.Frag}{d:Addr}{o:Obj}{es:Array DictEntry}{ep:Nat}{kvs:List (List Key×V)}{elts:List Expr}{kk:Nat}{tpos:Pos}(it:Addr)(hod:o.data=.dict es ep):
  yw P w K (.Tuple elts kk tpos) (VN d o kvs) [it] it (fun i h=>∃ok ov,IsItemIter h it d i es.size ep ok ov) where
 mem:=by simp
 obj:=fun i h st b hb=>by
  obtain⟨ok,ov,e⟩:=st;rw[List.mem_singleton.mp hb];exact⟨_,e,fun v z=>nomatch z⟩
 keep:=fun i h h' st k=>let ⟨ok,ov,e⟩:=st;⟨ok,ov,k it (by simp) _ e⟩
 item:=by
  intro X hP hw hK hc i pins s σ H E I hf st hg;subst hP hw hK;obtain⟨hd,hi⟩:=hg;obtain⟨z,hs,o',es',Lq,hgd,hx,hdt,hsz,ent⟩:=Rd.dT I (.inr ⟨o,hd⟩);have eo:o'=o:=by
   obtain⟨q,_⟩:=I.hok d _ hd;exact aQ (hgd.symm.trans q)
  subst eo;obtain⟨rfl,rfl⟩:=sr hod hdt;obtain⟨ok,ov,he⟩:=st;have hkv:kvs[i]? =some (kvs[i].1,kvs[i].2):=aM hi;obtain⟨en,q,hen,ek,hq,rv⟩:=ent i _ _ hkv;have hlt:it<s.heap.objs.size:=aF he;refine C3 he hgd hdt hen fun h' ho hT hz hk=>?_;refine⟨_,rfl,wpAny_letOwnedTupleGo_items (s:={s with heap:=h'}) ho fun h2 ER sb=>?_⟩;have hT2:h2.get? s.heap.objs.size=some {cls:=.type "tuple",data:=.seq #[en.key,en.val]}:=(sb.2 _ (dz hlt)).trans hT;have new:eX X.prog X.w (upd H s.heap.objs.size (.tup [.ref q,kvs[i].2])) h2 s.heap.objs.size (.tup [.ref q,kvs[i].2]):=
   ⟨by show 2<=sizeLine;decide,[en.key,en.val],.cons ek (.cons rv .nil),⟨_,hT2,rfl,_,rfl⟩⟩
  have I1:bJ X pins σ (upd H s.heap.objs.size (.tup [.ref q,kvs[i].2])) {s with heap:=h2}:=
   I.oG (t':=s.toks) (ch:=[it]) (fun b ob hb e=>(sb.2 b (by simpa using hb)).trans (hk b ob (by simpa using hb) e)) hf (aq _) new
  refine⟨.ref s.heap.objs.size,_,I1,rfl,⟨_,_,_,q,hkv,rfl,I.hok.fresh (aq _),hq,rfl⟩,⟨_,_,ER⟩,fun b hb=>?_⟩;rw[List.mem_singleton.mp hb,aI (aT hlt)];exact(hf it (by simp)).1
 done:=by
  intro X hP hw hK hc i pins s σ H E I hf st hg;subst hP hw hK;obtain⟨hd,hi⟩:=hg;obtain⟨f0,f1,f2,f3,f4,f5⟩:=hf it (by simp);obtain⟨z,hs,o',es',Lq,hgd,hx,hdt,hsz,ent⟩:=Rd.dT I (.inr ⟨o,hd⟩);have eo:o'=o:=by
   obtain⟨q,_⟩:=I.hok d _ hd;exact aQ (hgd.symm.trans q)
  subst eo;obtain⟨rfl,rfl⟩:=sr hod hdt;obtain⟨ok,ov,he⟩:=st;exact Bl (I.ok.hd hc) he hgd hdt (by omega) fun h' eb=>⟨rfl,I.turned (t':=s.toks) (fun b ob hb e=>eb b ob hb e) f0 f1 f3 f4 f5⟩
 self:=fun A i s Q E st h=>let ⟨_,_,e⟩:=st;PySem.W.kcp_self e h
open AutoSeq1 (wpAny_loadPart')
section
variable{prog:Program}{w:World}{A:Around}{E:Value->Shared->Prop}{s:Shared}
theorem C4{T newId initId:String}{Bn Bi:Builtin}{us:List Value}{kw:List (Str×Value)}{S:PySem.Spec}{Q Q':Value->Shared->Prop}(ft:TypeCalled T newId initId)
  (c1:checkTypeCall T ⟨us,kw⟩=pure ()) (c2:checkBuiltinCall newId ⟨.type T::us,kw⟩=pure ())
  (n1:entryFor table newId=some Bn) (n2:entryFor table initId=some Bi) (g:Meets (Bn ⟨.type T::us,kw⟩) S)
  (h:S A.in1 (wants Q' E) s)
  (nx:∀x s',Q' x s'->s'.TypeIs x T/\argsOk initId ⟨x::us,kw⟩/\∃Si,Meets (Bi ⟨x::us,kw⟩) Si/\Si A.in1 (wants (fun r s₂=>r=.none/\Q x s₂) E) s'):
  wpAny (model prog w) A (call (.type T) us kw) Q E s:=by
 obtain⟨c,tl,m1⟩:=ft.mro;have m2:=ft.made;have m3:=ft.sub;refine ow (uM ?_);show wpAny _ _ (callAny (.type T) _) _ _ _;refine ak ⟨jS _ (by decide +kernel),jV F.entry_type_call ?_⟩;rw[Around.under_plain (weight_type_call_type T us kw) (units_type_call_type T us kw)];have m4:=ft.notType;have m5:=ft.canCreate
 repeat (any_goals (first|assumption|wp_step))
 refine jQ (f6 ft.plain n1 (jM c2 (g prog w A.in1 _ s h))) fun r s₁ hr=>?_;cases r with
 |error e=>exact hr
 |ok fl=>
  cases fl with
  |ret x=>
   obtain⟨tx,ok,Si,gi,si⟩:=nx _ _ hr;have i1:=ft.init.lookup;have i2:=ft.init.bind x
   repeat (any_goals (first|assumption|wp_step))
   refine jQ (f6 ft.init.plain n2 (ft.init.check _ _ _ _ _ _ _ _ tx ok (gi prog w A.in1 _ s₁ si))) fun q s₂ hq=>?_;cases q with
   |error e=>exact hq
   |ok f2=>
    cases f2 with
    |ret r=>
     obtain⟨rfl,hq⟩:=hq
     repeat (any_goals (first|assumption|wp_step))
    |_=>exact hq.elim
  |_=>exact hr.elim
theorem ES{T newId:String}{x a:Value}{kw:List (Str×Value)}(hl:typeLookup (.type T) "__init__"=pure (some (.builtin "object.__init__")))
  (hm:Bind.madeBy (.type T)=pure (some newId)) (hne:(some newId != some "object.__new__")=true):
  Meets (Builtin.«object.__init__» ⟨[x,a],kw⟩) (fun _ R s=>s.TypeIs x T/\R (.ok (.ret .none)) s):=by
 refine Meets.of_wp fun prog w A R s hs=>?_;obtain⟨hT,hq⟩:=hs
 repeat (any_goals (first|assumption|wp_step))
 exact⟨_,rfl,hq⟩
theorem zz(a v:Value):checkTypeCall "enumerate" ⟨[a],[(("start" :Str),v)]⟩=pure ():=by kernel_rfl
theorem Bm(a v:Value):checkBuiltinCall "enumerate.__new__" ⟨[.type "enumerate",a],[(("start" :Str),v)]⟩=pure ():=by kernel_rfl
theorem yj(x a v:Value):argsOk "object.__init__" ⟨[x,a],[(("start" :Str),v)]⟩:=by unfold argsOk;kernel_rfl
theorem ET(l:Addr)(items:Array Value)(n:Nat)(dct:Option Addr)(sl:Array (Option Value))(t:Tok):
  Meets (Builtin.«enumerate.__new__» ⟨[.type "enumerate",.ref l],[(("start" :Str),.int 1 t)]⟩) (fun _ R s=>s.heap.get? l=some {cls:=.type "list",dict:=dct,data:=.seq items n,slots:=sl} /\
   R (.ok (.ret (.ref (s.heap.push {cls:=.type "list_iterator",data:=.fields #[.ref l,.int 0 0]}).objs.size)))
    {s with heap:=(s.heap.push {cls:=.type "list_iterator",data:=.fields #[.ref l,.int 0 0]}).push {cls:=.type "enumerate",data:=.fields #[.none,.bool false,.ref s.heap.objs.size,rawInt 1,.none,.none]}}):=
 .of_wp fun prog w A R s h=>by
  obtain⟨hp,g,d,tk,os⟩:=s;obtain⟨hl,h⟩:=h;have hsub:=sub_enumerate;have hL:Heap.IsList (Shared.heap ⟨hp,g,d,tk,os⟩) l items:=⟨_,hl,rfl,n,rfl⟩
  wp_walk using om hl
  refine wpAny_stack_any fun st=>ak ?_;split
  ·rename_i c _ _ _ _ _;cases (c==Value.type "enumerate")
   ·wp_walk using om hl,kT hL
    exact⟨_,rfl,h⟩
   ·wp_walk using om hl,kT hL
    exact⟨_,rfl,h⟩
  ·wp_walk using om hl,kT hL
   exact⟨_,rfl,h⟩
end
end L2
namespace L2
open PySem PySem.Spec PyProof.Rows
section
variable{prog:Program}{w:World}{A:Around}{E:Value->Shared->Prop}{s:Shared}
theorem Ke{N I l:Addr}{j:Nat}{c:Int}{its:Array Value}{y z:Value}{Q:Value->Shared->Prop}(a1:IsEnum s.heap N I c z)(a2:s.heap.IsListIter I l j)(a3:s.heap.IsList l its)(a4:its[j]? =some y)(a5:N≠I)
  (h:∀m,IsEnumOut m N I (c+1) y s.heap.objs.size->m.IsListIter I l (j+1)->m.get? s.heap.objs.size=some {cls:=.type "tuple",data:=.seq #[.int c s.toks,y]} ->m.objs.size=s.heap.objs.size+1->
   (∀b o,b≠N->b≠I->s.heap.get? b=some o->m.get? b=some o)->Q (.ref s.heap.objs.size) {s with heap:=m,toks:=s.toks+1}):
  wpAny (model prog w) A (Builtin.«enumerate.__next__» ⟨[.ref N],[]⟩) (fun fin s'=>∃v,fin=.done (.ret v)/\Q v s') E s:=by
 obtain⟨hp,gs,dw,tk,os⟩:=s;show wpAny _ _ (field (.ref N) 2 >>=_) _ _ _;refine aa (cA a1 rfl (x:=.ref I) rfl (aa (wpAny_nextOf_list_item a2 a3 a4 fun m1 t1 u1=>?_)))
 replace u1:Heap.SameBut I hp m1:=u1
 have e1:IsEnum m1 N I c z:=(u1.2 N a5).trans a1;show wpAny _ _ (field (.ref N) 3 >>=_) _ _ ⟨m1,gs,dw,tk,os⟩;refine aa (cA e1 rfl (x:=rawInt c) rfl ?_);show wpAny _ _ (field (.ref N) 4 >>=_) _ _ ⟨m1,gs,dw,tk,os⟩;refine aa (cA e1 rfl (x:=.none) rfl ?_);show wpAny _ _ (mkInt c >>=_) _ _ ⟨m1,gs,dw,tk,os⟩;refine aa (wpAny_mkInt ?_);show wpAny _ _ (setField (.ref N) 3 (rawInt (c+1)) >>=_) _ _ ⟨m1,gs,dw,tk+1,os⟩;refine aa (bQ e1 (by simp) fun m2 e2 u2=>?_)
 replace u2:Heap.SameBut N m1 m2:=u2
 replace e2:IsEnum m2 N I (c+1) z:=e2
 show wpAny _ _ (setField (.ref N) 4 .none >>=_) _ _ ⟨m2,gs,dw,tk+1,os⟩;refine aa (bQ e2 (by simp) fun m3 e3 u3=>?_)
 replace u3:Heap.SameBut N m2 m3:=u3
 replace e3:IsEnum m3 N I (c+1) z:=e3
 show wpAny _ _ (newTuple [.int c tk,y] >>=_) _ _ ⟨m3,gs,dw,tk+1,os⟩;refine aa (wpAny_newTuple ?_);have e4:IsEnum (m3.push {cls:=.type "tuple",data:=.seq #[.int c tk,y]}) N I (c+1) z:=af _ e3;generalize VO:m3.push {cls:=.type "tuple",data:=.seq #[.int c tk,y]} =m4 at e4;have z3:m3.objs.size=hp.objs.size:=by rw[u3.1,u2.1,u1.1]
 have nl:N<hp.objs.size:=aF a1;have t4:m4.get? hp.objs.size=some {cls:=.type "tuple",data:=.seq #[.int c tk,y]}:=by rw[<- VO, <- z3];exact aE _ rfl
 have z4:m4.objs.size=hp.objs.size+1:=by rw[<- VO,bT,z3]
 have k4:∀b o,b≠N->b≠I->hp.get? b=some o->m4.get? b=some o:=fun b o n1 n2 q=>by
  rw[<- VO];exact af _ (u3.extBut b o n1 (u2.extBut b o n1 (u1.extBut b o n2 q)))
 have i4:m4.IsListIter I l (j+1):=by
  obtain⟨o,ho,r⟩:=(t1.extBut u2.extBut a5.symm).extBut u3.extBut a5.symm;rw[<- VO];exact⟨o,af _ ho,r⟩
 show wpAny _ _ (Builtin.SmallTypes.ownedTupleIsFree (.ref N) >>=_) _ _ ⟨m4,gs,dw,tk+1,os⟩;rw[z3]
 clear VO e3 u3 e2 u2 e1 u1 t1 z3 m3 m2 m1
 refine aa ?_;unfold Builtin.SmallTypes.ownedTupleIsFree;refine aa (cA e4 rfl (x:=.none) rfl (ak ?_));simp only[lu];refine aa (ou (aa (cA e4 rfl (x:=z) rfl (aa (bQ e4 (by simp) fun m5 e5 u5=>?_)))))
 replace u5:Heap.SameBut N m4 m5:=u5
 replace e5:IsEnum m5 N I (c+1) y:=e5
 show wpAny _ _ (Builtin.SmallTypes.ownedTupleHandOut (.ref N) (.ref hp.objs.size) >>=_) _ _ ⟨m5,gs,dw,tk+1,os⟩;refine aa ?_;unfold Builtin.SmallTypes.ownedTupleHandOut;refine aa (bQ e5 (by simp) fun m6 e6 u6=>?_)
 replace u6:Heap.SameBut N m5 m6:=u6
 replace e6:IsEnumOut m6 N I (c+1) y hp.objs.size:=e6
 refine bQ e6 (by simp) fun m7 e7 u7=>?_
 replace u7:Heap.SameBut N m6 m7:=u7
 replace e7:IsEnumOut m7 N I (c+1) y hp.objs.size:=e7
 have up:∀b o,b≠N->m4.get? b=some o->m7.get? b=some o:=fun b o n1 q=>u7.extBut b o n1 (u6.extBut b o n1 (u5.extBut b o n1 q));refine aa (lO (ak ⟨_,rfl,h m7 e7 (i4.at fun o q=>up I o a5.symm q) (up _ _ (dz nl) t4) ?_ fun b o n1 n2 q=>up b o n1 (k4 b o n1 n2 q)⟩));show m7.objs.size=hp.objs.size+1;rw[u7.1,u6.1,u5.1,z4]
theorem Kg{N I l:Addr}{j:Nat}{c:Int}{its:Array Value}{z:Value}{Q:Option Value->Shared->Prop}(hh:A.handled=none)(a1:IsEnum s.heap N I c z)(a2:s.heap.IsListIter I l j)(a3:s.heap.IsList l its)(a4:its[j]? =none)
  (h:∀m,Heap.ExtBut I s.heap m->Q none {s with heap:=m}):wpAny (model prog w) A (pyNext (.ref N)) Q E s:=by
 have ty:s.TypeIs (.ref N) "enumerate":=⟨_,a1,rfl⟩
 unfold pyNext;refine aa (gM (bZ (name:=Str.ofString "__next__") ty rZ (bU rZ ty F.entry_enumerate_next ?_ (F.args_enumerate_next_1 _))));show wpAny _ _ (field (.ref N) 2 >>=_) _ _ _;refine aa (cA a1 rfl (x:=.ref I) rfl (aa (wpAny_nextOf_list_end hh a2 a3 a4 fun m x k1 k2=>?_)));obtain⟨o,ho,hc⟩:=k2;exact aa (dZ (b:=true) (T:="StopIteration") ⟨o,ho,hc⟩ ye (ak (h _ k1)))
theorem G4{l:Addr}{its:Array Value}{t:Tok}{Q:Value->Shared->Prop}(hL:s.heap.IsList l its)
  (h:∀m,IsEnum m (s.heap.objs.size+1) s.heap.objs.size 1 .none->m.IsListIter s.heap.objs.size l 0->(∀b o,s.heap.get? b=some o->m.get? b=some o)->Q (.ref (s.heap.objs.size+1)) {s with heap:=m}):
  wpAny (model prog w) A (call (.type "enumerate") [.ref l] [(("start" :Str),.int 1 t)]) Q E s:=by
 obtain⟨⟨c,dct,dt,sl⟩,hl,hc,n,hd⟩:=hL
 replace hc:c=.type "list":=hc
 replace hd:dt=.seq its n:=hd
 subst hc hd;have sz:(s.heap.push {cls:=.type "list_iterator",data:=.fields #[.ref l,.int 0 0]}).objs.size=s.heap.objs.size+1:=bT ..;refine C4 (Q':=fun x s'=>s'.TypeIs x "enumerate"/\Q x s') F.called_enumerate (zz _ _) (Bm _ _) F.entry_enumerate_new F.entry_object_init (ET l its n dct sl t) ⟨hl,?_⟩
  fun x s' hx=>⟨hx.1,yj x _ _,_,ES F.called_enumerate.init.lookup F.called_enumerate.made (by decide),hx.1,rfl,hx.2⟩
 show _/\_;rw[sz];have he:IsEnum ((s.heap.push {cls:=.type "list_iterator",data:=.fields #[.ref l,.int 0 0]}).push {cls:=.type "enumerate",data:=.fields #[.none,.bool false,.ref s.heap.objs.size,rawInt 1,.none,.none]}) (s.heap.objs.size+1) s.heap.objs.size 1 .none:=by
  have q:=aE (s.heap.push {cls:=.type "list_iterator",data:=.fields #[.ref l,.int 0 0]}) (o:={cls:=.type "enumerate",data:=.fields #[.none,.bool false,.ref s.heap.objs.size,rawInt 1,.none,.none]}) rfl;rw[sz]at q;exact q
 exact⟨⟨_,he,rfl⟩,h _ he ⟨_,af _ (aE _ rfl),rfl,rfl⟩ fun b o q=>af _ (af _ q)⟩
theorem Bo{M:Model}{env:Env}{pos:Pos}{T:String}{e:Expr}{kws:List Keyword}{Q:Value->Shared->Prop}
  (h:wpAny M A (spliced (backTo pos (starEach [e] env))) (fun vs s₁=>wpAny M A (evalAll ((backToKw pos (keywordEach kws env)).map (·.2)))
   (fun ws s₂=>wpAny M A (call (.type T) vs (((backToKw pos (keywordEach kws env)).filterMap (·.1)).zip ws)) Q E s₂) E s₁) E s)
  (h1:backTo pos (starEach [e] env)=(false,eval e env)::backTo pos (starEach [] env):=by rfl) (h2:(backTo pos (starEach [e] env)).any (·.1)=false:=by rfl)
  (h3:(backToKw pos (keywordEach kws env)).all (·.1.isSome)=true:=by rfl) (h4:(backToKw pos (keywordEach kws env)).any (·.1.isNone)=false:=by rfl):
  wpAny M A (callWith pos (.type T) [] (backTo pos (starEach [e] env)) (backToKw pos (keywordEach kws env))) Q E s:=by
 unfold callWith;have k:wpAny M A (evalArgs (.type T) true (backTo pos (starEach [e] env)) (backToKw pos (keywordEach kws env))) (fun a s₁=>wpAny M A (call (.type T) ([]++a.pos) a.kw) Q E s₁) E s:=by
  rw[h1]at h ⊢;exact evalArgs_kwB h3 h
 refine aa (dB (di k (fun a s₁ q=>aa (ku ?_)) fun _ _ x=>x));simp only[h2,h4,g9];exact aa (ak (aa (di q (fun r s₂ hr=>aa (dB (wpAny_point (ak hr)))) fun _ _ x=>x)))
end
def VP(K:PySem.W.Frag)(a:Addr):It:=
 ⟨fun i H=>∃(xs:List V) (x:V),cI K H a xs/\xs[i]? =some x,fun i H v H'=>∃T x,v=.ref T/\H T=none/\H'=upd H T (.tup [.int ((i:Nat)+1:Int),x])/\∀xs,cI K H a xs->xs[i]? =some x,fun i H=>∃xs:List V,cI K H a xs/\xs.length<=i⟩
theorem G5{P:Program}{w:World}{K:PySem.W.Frag}{elts:List Expr}{kk:Nat}{tpos:Pos}(a e it:Addr):
  yw P w K (.Tuple elts kk tpos) (VP K a) [e,it] e (fun i h=>(∃old,IsEnum h e it ((i:Nat)+1:Int) old)/\h.IsListIter it a i/\e≠it) where
 mem:=by simp
 obj:=fun i h st b hb=>by
  obtain⟨⟨old,he⟩,⟨o,ho,hc,hd⟩,_⟩:=st;rcases (by simpa using hb:b=e\/b=it)with z|z
  ·rw[z];exact⟨_,he,fun v q=>nomatch q⟩
  ·rw[z];exact⟨o,ho,fun v q=>by rw[hd]at q;cases q⟩
 keep:=fun i h h' st k=>let ⟨⟨old,he⟩,hi,hne⟩:=st;⟨⟨old,k e (by simp) _ he⟩,hi.at fun o q=>k it (by simp) o q,hne⟩
 item:=by
  intro X hP hw hK hc i pins s σ H E I hf st hg;subst hP hw hK;obtain⟨⟨old,he⟩,hit,hne⟩:=st;obtain⟨xs,x,hq,hx⟩:=hg;obtain⟨its,rv,p,hz⟩:=I.list hq;obtain⟨u,hu,ru⟩:=rv.get hx;have hel:e<s.heap.objs.size:=aF he;have hil:it<s.heap.objs.size:=by obtain⟨_,q,_⟩:=hit;exact aF q
  have ty:s.TypeIs (.ref e) "enumerate":=⟨_,he,rfl⟩
  unfold pyNext;refine aa (gM (bZ (name:=Str.ofString "__next__") ty rZ (bU rZ ty F.entry_enumerate_next
   (Ke he hit p.isList (y:=u) (by simpa using hu) hne fun m m1 m2 m3 m4 m5=>ak ?_) (F.args_enumerate_next_1 _))))
  refine⟨_,rfl,wpAny_letOwnedTupleGo_enum (s:={s with heap:=m,toks:=s.toks+1}) m1 fun h2 ER sb=>?_⟩;have hT2:h2.get? s.heap.objs.size=some {cls:=.type "tuple",data:=.seq #[.int ((i:Nat)+1:Int) s.toks,u]}:=(sb.2 _ (dz hel)).trans m3;have new:eX X.prog X.w (upd H s.heap.objs.size (.tup [.int ((i:Nat)+1:Int),x])) h2 s.heap.objs.size (.tup [.int ((i:Nat)+1:Int),x]):=
   ⟨by show 2<=sizeLine;decide,[.int ((i:Nat)+1:Int) s.toks,u],.cons ⟨_,rfl⟩ (.cons ru .nil),⟨_,hT2,rfl,_,rfl⟩⟩
  have I1:bJ X pins σ (upd H s.heap.objs.size (.tup [.int ((i:Nat)+1:Int),x])) {s with heap:=h2,toks:=s.toks+1}:=
   I.oG (ch:=[e,it]) (fun b ob hb q=>(sb.2 b (fun z=>hb (by simp[z]))).trans (m5 b ob (fun z=>hb (by simp[z])) (fun z=>hb (by simp[z])) q)) hf (aq _) new
  refine⟨.ref s.heap.objs.size,_,I1,rfl,⟨_,x,rfl,I.hok.fresh (aq _),rfl,fun ys hy=>by rw[I.qy hy hq];exact hx⟩,⟨⟨u,?_⟩,m2.at fun o q=>(sb.2 it (bP hne)).trans q,hne⟩,fun b hb=>?_⟩
  ·have e1:(((i+1:Nat):Int)+1)=((i:Nat)+1:Int)+1:=by omega
   rw[e1];exact ER
  ·have hb':b<s.heap.objs.size:=by
    rcases (by simpa using hb:b=e\/b=it)with z|z
    ·rw[z];exact hel
    ·rw[z];exact hil
   rw[aI (aT hb')];exact(hf b hb).1
 done:=by
  intro X hP hw hK hc i pins s σ H E I hf st hg;subst hP hw hK;obtain⟨⟨old,he⟩,hit,hne⟩:=st;obtain⟨xs,hq,hx⟩:=hg;obtain⟨its,rv,p,hz⟩:=I.list hq;obtain⟨f0,f1,f2,f3,f4,f5⟩:=hf it (by simp);have hl:=rv.length;exact Kg (I.ok.hd hc) he hit p.isList (by simp;omega) fun h' eb=>⟨rfl,I.turned (t':=s.toks) (fun b o hb q=>eb b o hb q) f0 f1 f3 f4 f5⟩
 self:=fun A i s Q E st h=>let ⟨⟨_,he⟩,_⟩:=st;A0 he h
def SD(K:PySem.W.Frag)(ta tk:TA):TI:=fun σ H R=>ta σ H fun vs H1=>tk σ H1 fun zs H2=>∃a xs,vs=[.ref a]/\zs=[.int 1]/\cI K H2 a xs/\R (VP K a) H2
theorem EU{X:Cx}{e d:Expr}{ta tk:TA}{p pos tpos kp:Pos}{elts:List Expr}{kk:Nat}(hg:Gl X "enumerate")(hm:X.mg "enumerate"=none)(ha:PA X [e] ta)(hkw:PK X [⟨some "start",d,kp⟩] tk)
  (h1:backTo pos (starEach [e] X.env)=(false,eval e X.env)::backTo pos (starEach [] X.env):=by rfl) (h2:(backTo pos (starEach [e] X.env)).any (·.1)=false:=by rfl):
  PI X (.Tuple elts kk tpos) (.Call (.Name "enumerate" p) [e] [⟨some "start",d,kp⟩] pos) (SD X.K ta tk):=by
 intro pins s σ H R I h;refine fL (qw I hg hm boot_enumerate (Bo (dI (ha pos pins s σ H _ I h) fun us s1 ⟨vs,H1,I1,r1,q1⟩=>dI (hkw pos pins s1 σ H1 _ I1 q1) fun ws s2 eT=>?_) h1 h2));obtain⟨zs,H2,I2,r2,a,xs,e1,e2,hq,q⟩:=eT;subst e1 e2;obtain⟨u,rfl,t,rfl⟩:=vals1 r2;rw[cC.zh r1];obtain⟨its,rv,p',hz⟩:=I2.list hq;show wpAny _ _ (call (.type "enumerate") [.ref a] [(("start" :Str),.int 1 t)]) _ _ s2;refine G4 p'.isList fun m he hit hk=>A0 he ?_;have I3:bJ X pins σ H2 {s2 with heap:=m}:=I2.kept (t':=s2.toks) hk;refine⟨s2.heap.objs.size+1,[s2.heap.objs.size+1,s2.heap.objs.size],_,_,H2,rfl,I3,G5 a (s2.heap.objs.size+1) s2.heap.objs.size,⟨⟨.none,he⟩,hit,Nat.succ_ne_self _⟩,fun b hb=>?_,q⟩;have hle:s2.heap.objs.size<=b:=by
  rcases (by simpa using hb:b=s2.heap.objs.size+1\/b=s2.heap.objs.size)with z|z
  ·rw[z];exact kI _ _
  ·rw[z];exact aq _
 exact I2.GC hle (I2.hok.fresh hle)
section
variable{prog:Program}{w:World}{A:Around}{E:Value->Shared->Prop}{s:Shared}
theorem G6{it t:Addr}{j:Nat}{its:Array Value}{y:Value}{Q:Value->Shared->Prop}(a1:s.heap.IsTupleIter it t j)(a2:s.heap.IsTuple t its)(a3:its[j]? =some y)
  (h:∀m,m.IsTupleIter it t (j+1)->Heap.SameBut it s.heap m->Q y {s with heap:=m}):wpAny (model prog w) A (Builtin.SmallTypes.nextOf (.ref it)) Q E s:=by
 obtain⟨o,ho,hc,hd⟩:=id a1;obtain⟨ot,g1,_,n,g2⟩:=a2;unfold Builtin.SmallTypes.nextOf;refine aa (bZ (name:=Str.ofString "__next__") a1.typeIs F.slot_tuple_iterator_next (bU F.slot_tuple_iterator_next a1.typeIs F.entry_tuple_iterator_next ?_ (F.args_tuple_iterator_next_1 _)));show wpAny _ _ (field (.ref it) 0 >>=_) _ _ s;refine aa (cA ho hd (x:=.ref t) rfl ?_);show wpAny _ _ (if(Value.ref t==Value.none)=true then _ else _) _ _ s;rw[ao (show ¬((Value.ref t==Value.none)=true)from aU)];show wpAny _ _ (field (.ref it) 1 >>=_) _ _ s;refine aa (cA ho hd (x:=.int j 0) rfl ?_);show wpAny _ _ (seqItems? (.ref t) >>=_) _ _ s;refine aa (fZ g1 g2 ?_);simp only[cJ,a3];refine aa (jr ho hd (by simp) (ak ⟨y,rfl,ak (h _ ⟨_,cU _ ho (rY (gX hd _)),(Obj.cls_mapFields ..).trans hc,?_⟩ (ee ..))⟩));rw[gX hd];simp[rawInt]
theorem Kh{z TI TO i1 i2 l1 l2:Addr}{k1 k2:Nat}{xs ys:Array Value}{x y a b:Value}{Q:Value->Shared->Prop}(D:ZipApart z TI TO i1 i2 l1 l2)
  (hz:IsZip s.heap z TI TO .none) (hTI:IsPair s.heap TI (.ref i1) (.ref i2)) (hTO:IsPair s.heap TO a b)
  (h1:s.heap.IsListIter i1 l1 k1) (h2:s.heap.IsTupleIter i2 l2 k2) (g1:s.heap.IsList l1 xs) (g2:s.heap.IsTuple l2 ys) (hx:xs[k1]? =some x) (hy:ys[k2]? =some y)
  (h:∀m,IsZip m z TI TO (rawInt s.heap.objs.size)->IsPair m TO x y->m.IsListIter i1 l1 (k1+1)->m.IsTupleIter i2 l2 (k2+1)->IsPair m s.heap.objs.size x y->
   (∀c o,c≠z->c≠TO->c≠i1->c≠i2->s.heap.get? c=some o->m.get? c=some o)->Q (.ref s.heap.objs.size) {s with heap:=m}):
  wpAny (model prog w) A (Builtin.«zip.__next__» ⟨[.ref z],[]⟩) (fun fin s'=>∃v,fin=.done (.ret v)/\Q v s') E s:=by
 show wpAny _ _ (field (.ref z) 2 >>=_) _ _ _;refine aa (cA hz rfl (x:=.bool false) rfl ?_);show wpAny _ _ (field (.ref z) 3 >>=_) _ _ _;refine aa (cA hz rfl (x:=.ref TI) rfl (aa (fZ hTI rfl ?_)));show wpAny _ _ (Builtin.SmallTypes.ownedTupleIsFree (.ref z) >>=_) _ _ _;refine aa ?_;unfold Builtin.SmallTypes.ownedTupleIsFree;refine aa (cA hz rfl (x:=.none) rfl (ak ?_));simp only[lu];refine aa (ou (aa (cA hz rfl (x:=.ref TO) rfl (aa (bQ hz (by simp) fun m1 z1 s1=>?_)))))
 replace z1:IsZip m1 z TI TO .ellipsis:=z1
 refine aa ?_;simp only[A5,List.zipIdx_nil,List.forIn_cons,OD];refine aa (aa (OE ?_));show wpAny _ _ (Builtin.SmallTypes.nextOf (.ref i1) >>=_) _ _ _;refine aa (wpAny_nextOf_list_item (h1.extBut s1.extBut D.i1z) (g1.extBut s1.extBut D.l1z) hx fun m2 t2 s2=>ak ?_);have o2:IsPair m2 TO a b:=s2.extBut _ _ D.TOi1 (s1.extBut _ _ D.TOz hTO);refine aa (fZ o2 rfl (aa (wpAny_updateSeq_pair o2 fun m3 o3 s3=>?_)))
 replace o3:IsPair m3 TO x b:=o3
 refine aa (lO (ak (aa (aa (OE ?_)))));show wpAny _ _ (Builtin.SmallTypes.nextOf (.ref i2) >>=_) _ _ _;have q1:∀o,s.heap.get? i2=some o->m3.get? i2=some o:=fun o e=>s3.extBut _ _ D.TOi2.symm (s2.extBut _ _ D.i12.symm (s1.extBut _ _ D.i2z e));have q2:∀o,s.heap.get? l2=some o->m3.get? l2=some o:=fun o e=>s3.extBut _ _ D.l2TO (s2.extBut _ _ D.l2i1 (s1.extBut _ _ D.l2z e));obtain⟨oi,p1,p2⟩:=id h2;obtain⟨ot,p3,p4⟩:=id g2;refine aa (G6 (its:=ys) ⟨oi,q1 oi p1,p2⟩ ⟨ot,q2 ot p3,p4⟩ hy fun m4 t4 s4=>ak ?_);have o4:IsPair m4 TO x b:=s4.extBut _ _ D.TOi2 o3;refine aa (fZ o4 rfl (aa (wpAny_updateSeq_pair o4 fun m5 o5 s5=>?_)))
 replace o5:IsPair m5 TO x y:=o5
 refine aa (lO (ak (ak ?_)));refine aa (fZ o5 rfl (aa (wpAny_newTuple ?_)));have sz:m5.objs.size=s.heap.objs.size:=by rw[s5.1,s4.1,s3.1,s2.1,s1.1]
 have z5:IsZip m5 z TI TO .ellipsis:=s5.extBut _ _ D.TOz.symm (s4.extBut _ _ D.i2z.symm (s3.extBut _ _ D.TOz.symm (s2.extBut _ _ D.i1z.symm z1)));have k5:∀c o,c≠z->c≠TO->c≠i1->c≠i2->s.heap.get? c=some o->m5.get? c=some o:=fun c o c1 c2 c3 c4 e=>
  s5.extBut _ _ c2 (s4.extBut _ _ c4 (s3.extBut _ _ c2 (s2.extBut _ _ c3 (s1.extBut _ _ c1 e))))
 have u1:m5.IsListIter i1 l1 (k1+1):=((t2.extBut s3.extBut D.TOi1.symm).extBut s4.extBut D.i12).extBut s5.extBut D.TOi1.symm;have u2:m5.IsTupleIter i2 l2 (k2+1):=by obtain⟨o,e1,e2⟩:=t4;exact⟨o,s5.extBut _ _ D.TOi2.symm e1,e2⟩
 have zl:z<m5.objs.size:=aF z5;show wpAny _ _ (Builtin.SmallTypes.ownedTupleHandOut (.ref z) (.ref m5.objs.size) >>=_) _ _ _;refine aa ?_;unfold Builtin.SmallTypes.ownedTupleHandOut;have z6:IsZip (m5.push {cls:=.type "tuple",data:=.seq #[x,y]}) z TI TO .ellipsis:=af _ z5;refine aa (bQ z6 (by simp) fun m7 z7 s7=>?_)
 replace z7:IsZip m7 z TI TO (rawInt m5.objs.size):=z7
 refine bQ z7 (by simp) fun m8 z8 s8=>?_
 replace z8:IsZip m8 z TI TO (rawInt m5.objs.size):=z8
 have up:∀c o,c≠z->m5.get? c=some o->m8.get? c=some o:=fun c o c1 e=>s8.extBut _ _ c1 (s7.extBut _ _ c1 (af _ e));have t8:IsPair m8 m5.objs.size x y:=s8.extBut _ _ (dz zl) (s7.extBut _ _ (dz zl) (aE _ rfl));rw[sz]at z8 t8;refine ak ⟨_,rfl,?_⟩;show Q (.ref m5.objs.size) _;rw[sz];refine h m8 z8 (up _ _ D.TOz o5) (u1.at fun o e=>up _ o D.i1z e) ?_ t8 fun c o c1 c2 c3 c4 e=>up c o c1 (k5 c o c1 c2 c3 c4 e);obtain⟨o,e1,e2⟩:=u2;exact⟨o,up _ o D.i2z e1,e2⟩
theorem Kl{z TI TO i1 i2 l1 l2:Addr}{k1:Nat}{xs:Array Value}{a b:Value}{Q:Option Value->Shared->Prop}(hh:A.handled=none)(D:ZipApart z TI TO i1 i2 l1 l2)
  (hz:IsZip s.heap z TI TO .none) (hTI:IsPair s.heap TI (.ref i1) (.ref i2)) (hTO:IsPair s.heap TO a b) (h1:s.heap.IsListIter i1 l1 k1) (g1:s.heap.IsList l1 xs) (hx:xs[k1]? =none)
  (h:∀m,(∀c o,c≠z->c≠TO->c≠i1->c≠i2->s.heap.get? c=some o->m.get? c=some o)->Q none {s with heap:=m}):wpAny (model prog w) A (pyNext (.ref z)) Q E s:=by
 have ty:s.TypeIs (.ref z) "zip":=⟨_,hz,rfl⟩
 unfold pyNext;refine aa (gM (bZ (name:=Str.ofString "__next__") ty Gq (bU Gq ty F.entry_zip_next ?_ (F.args_zip_next_1 _))));show wpAny _ _ (field (.ref z) 2 >>=_) _ _ _;refine aa (cA hz rfl (x:=.bool false) rfl ?_);show wpAny _ _ (field (.ref z) 3 >>=_) _ _ _;refine aa (cA hz rfl (x:=.ref TI) rfl (aa (fZ hTI rfl ?_)));show wpAny _ _ (Builtin.SmallTypes.ownedTupleIsFree (.ref z) >>=_) _ _ _;refine aa ?_;unfold Builtin.SmallTypes.ownedTupleIsFree;refine aa (cA hz rfl (x:=.none) rfl (ak ?_));simp only[lu];refine aa (ou (aa (cA hz rfl (x:=.ref TO) rfl (aa (bQ hz (by simp) fun m1 z1 s1=>?_)))))
 replace z1:IsZip m1 z TI TO .ellipsis:=z1
 refine aa ?_;simp only[A5,List.zipIdx_nil,List.forIn_cons,OD];refine aa (aa (OE ?_));show wpAny _ _ (Builtin.SmallTypes.nextOf (.ref i1) >>=_) _ _ _;refine aa (wpAny_nextOf_list_end hh (h1.extBut s1.extBut D.i1z) (g1.extBut s1.extBut D.l1z) hx fun m2 e s2 he=>?_);obtain⟨oe,Rg,hce⟩:=he;have z2:IsZip m2 z TI TO .ellipsis:=s2 _ _ D.i1z.symm z1;have hez:e≠z:=fun q=>by subst q;rw[z2]at Rg;cases Rg;simp at hce
 refine bQ z2 (by simp) fun m3 _ s3=>?_;refine aa (dZ (b:=true) (T:="StopIteration") ⟨oe,s3.extBut _ _ hez Rg,hce⟩ ye (ak (h _ fun c o c1 _ c3 _ q=>s3.extBut _ _ c1 (s2 _ _ c3 (s1.extBut _ _ c1 q)))))
abbrev UT(h:Heap)(a:Addr):Heap:=h.push {cls:=.type "list_iterator",data:=.fields #[.ref a,.int 0 0]}
abbrev UU(h:Heap)(a b:Addr):Heap:=(UT h a).push {cls:=.type "tuple_iterator",data:=.fields #[.ref b,.int 0 0]}
abbrev VQ(h:Heap)(a b:Addr):Heap:=(UU h a b).push {cls:=.type "tuple",data:=.seq #[.ref h.objs.size,.ref (UT h a).objs.size]}
abbrev UW(h:Heap)(a b:Addr):Heap:=(VQ h a b).push {cls:=.type "tuple",data:=.seq #[.none,.none]}
abbrev Rh(h:Heap)(a b:Addr):Heap:=(UW h a b).push {cls:=.type "zip",data:=.fields #[.none,.bool false,.bool false,.ref (UU h a b).objs.size,.ref (VQ h a b).objs.size]}
theorem G7(a b:Addr)(xs ys:Array Value):
  Meets (Builtin.«zip.__new__» ⟨[.type "zip",.ref a,.ref b],[]⟩) (fun _ R s=>s.heap.IsList a xs/\s.heap.IsTuple b ys/\R (.ok (.ret (.ref (UW s.heap a b).objs.size))) {s with heap:=Rh s.heap a b}):=
 .of_wp fun prog w A R s h=>by
  obtain⟨hp,g,d,tk,os⟩:=s;obtain⟨hl1,hl2,h⟩:=h;have hsub:=sub_zip;have hL1:Heap.IsList (Shared.heap ⟨hp,g,d,tk,os⟩) a xs:=hl1;have hL2:Heap.IsTuple (Shared.heap ⟨hp.push {cls:=.type "list_iterator",data:=.fields #[.ref a,.int 0 0]},g,d,tk,os⟩) b ys:=by
   obtain⟨o,e1,e2⟩:=hl2;exact⟨o,af _ e1,e2⟩
  wp_walk using kT hL1,wpAny_pyIter_tuple hL2
  exact⟨_,rfl,h⟩
theorem Km{a b:Addr}{xs ys:Array Value}{Q:Value->Shared->Prop}(hl1:s.heap.IsList a xs)(hl2:s.heap.IsTuple b ys)
  (h:∀m,IsZip m (s.heap.objs.size+4) (s.heap.objs.size+2) (s.heap.objs.size+3) .none->IsPair m (s.heap.objs.size+2) (.ref s.heap.objs.size) (.ref (s.heap.objs.size+1))->
   IsPair m (s.heap.objs.size+3) .none .none->m.IsListIter s.heap.objs.size a 0->m.IsTupleIter (s.heap.objs.size+1) b 0->
   (∀c o,s.heap.get? c=some o->m.get? c=some o)->Q (.ref (s.heap.objs.size+4)) {s with heap:=m}):
  wpAny (model prog w) A (call (.type "zip") [.ref a,.ref b]) Q E s:=by
 refine callType_new F.called_zip (by decide) (F.typeCall_zip_2 _ _) (F.newCall_zip_2 _ _) (fun obj=>F.args_object_init_3 obj _ _) F.entry_zip_new (G7 a b xs ys) ⟨hl1,hl2,?_⟩;have z1:(UT s.heap a).objs.size=s.heap.objs.size+1:=bT ..;have z2:(UU s.heap a b).objs.size=s.heap.objs.size+2:=by rw[bT,z1]
 have z3:(VQ s.heap a b).objs.size=s.heap.objs.size+3:=by rw[bT,z2]
 have z4:(UW s.heap a b).objs.size=s.heap.objs.size+4:=by rw[bT,z3]
 have g5:(Rh s.heap a b).get? (UW s.heap a b).objs.size=some _:=aE _ rfl;have g4:(UW s.heap a b).get? (VQ s.heap a b).objs.size=some _:=aE _ rfl;have g3:(VQ s.heap a b).get? (UU s.heap a b).objs.size=some _:=aE _ rfl;have g2:(UU s.heap a b).get? (UT s.heap a).objs.size=some _:=aE _ rfl;have g1:(UT s.heap a).get? s.heap.objs.size=some _:=aE _ rfl;have p4:(Rh s.heap a b).get? (s.heap.objs.size+3)=some {cls:=.type "tuple",data:=.seq #[.none,.none]}:=by rw[<- z3];exact af _ g4
 have p3:(Rh s.heap a b).get? (UU s.heap a b).objs.size=some _:=af _ (af _ g3);have p2:(Rh s.heap a b).get? (UT s.heap a).objs.size=some _:=af _ (af _ (af _ g2));have p1:(Rh s.heap a b).get? s.heap.objs.size=some _:=af _ (af _ (af _ (af _ g1)));have ty:Shared.TypeIs {s with heap:=Rh s.heap a b} (.ref (UW s.heap a b).objs.size) "zip":=⟨_,g5,rfl⟩
 have fin:=h (Rh s.heap a b) (by rw[z4,z3,z2]at g5;exact g5) (by rw[z2,z1]at p3;exact p3) p4 ⟨_,p1,rfl,rfl⟩ ⟨_,by rw[z1]at p2;exact p2,rfl,rfl⟩
  fun c o q=>af _ (af _ (af _ (af _ (af _ q))))
 show _/\_;refine⟨ty,?_⟩;rw[z4];exact fin
end
def VR(K:PySem.W.Frag)(a b:Addr):It:=
 ⟨fun i H=>∃(xs ys:List V) (x y:V),cI K H a xs/\lD K H b ys/\xs[i]? =some x/\ys[i]? =some y,
  fun i H v H'=>∃T x y,v=.ref T/\H T=none/\H'=upd H T (.tup [x,y])/\(∀xs,cI K H a xs->xs[i]? =some x)/\∀ys,lD K H b ys->ys[i]? =some y,
  fun i H=>∃xs ys:List V,cI K H a xs/\lD K H b ys/\xs.length<=i⟩
theorem Kn{P:Program}{w:World}{K:PySem.W.Frag}{elts:List Expr}{kk:Nat}{tpos:Pos}{a b z TI TO i1 i2:Addr}(D:ZipApart z TI TO i1 i2 a b):
  yw P w K (.Tuple elts kk tpos) (VR K a b) [z,TI,TO,i1,i2] z (fun i h=>IsZip h z TI TO .none/\IsPair h TI (.ref i1) (.ref i2)/\(∃x y,IsPair h TO x y)/\h.IsListIter i1 a i/\h.IsTupleIter i2 b i) where
 mem:=by simp
 obj:=fun i h st c hc=>by
  obtain⟨hz,hTI,⟨x,y,hTO⟩,⟨o1,e1,_,d1⟩,⟨o2,e2,_,d2⟩⟩:=st;rcases (by simpa using hc:c=z\/c=TI\/c=TO\/c=i1\/c=i2)with q|q|q|q|q
  ·rw[q];exact⟨_,hz,fun v q=>nomatch q⟩
  ·rw[q];exact⟨_,hTI,fun v q=>nomatch q⟩
  ·rw[q];exact⟨_,hTO,fun v q=>nomatch q⟩
  ·rw[q];exact⟨o1,e1,fun v q=>by rw[d1]at q;cases q⟩
  ·rw[q];exact⟨o2,e2,fun v q=>by rw[d2]at q;cases q⟩
 keep:=fun i h h' st k=>by
  obtain⟨hz,hTI,⟨x,y,hTO⟩,h1,⟨o2,e2,r2⟩⟩:=st;exact⟨k z (by simp) _ hz,k TI (by simp) _ hTI,⟨x,y,k TO (by simp) _ hTO⟩,h1.at fun o q=>k i1 (by simp) o q,⟨o2,k i2 (by simp) o2 e2,r2⟩⟩
 item:=by
  intro X hP hw hK hc i pins s σ H E I hf st hg;subst hP hw hK;obtain⟨hz,hTI,⟨x0,y0,hTO⟩,h1,h2⟩:=st;obtain⟨xs,ys,x,y,UX,XE,hx,hy⟩:=hg;obtain⟨its,rv,p,_⟩:=I.list UX;obtain⟨its2,YV,p2,_⟩:=I.tuple XE;obtain⟨u,hu,ru⟩:=rv.get hx;obtain⟨u2,hu2,ru2⟩:=YV.get hy;have hzl:z<s.heap.objs.size:=aF hz;have ty:s.TypeIs (.ref z) "zip":=⟨_,hz,rfl⟩
  unfold pyNext;refine aa (gM (bZ (name:=Str.ofString "__next__") ty Gq (bU Gq ty F.entry_zip_next
   (Kh D hz hTI hTO h1 h2 p.isList p2 (x:=u) (y:=u2) (by simpa using hu) (by simpa using hu2) fun m m1 m2 m3 m4 m5 hk=>ak ?_) (F.args_zip_next_1 _))))
  refine⟨_,rfl,wpAny_letOwnedTupleGo_zip (s:={s with heap:=m}) m1 fun h2' z2 sb=>?_⟩;have hT2:h2'.get? s.heap.objs.size=some {cls:=.type "tuple",data:=.seq #[u,u2]}:=(sb.2 _ (dz hzl)).trans m5;have new:eX X.prog X.w (upd H s.heap.objs.size (.tup [x,y])) h2' s.heap.objs.size (.tup [x,y]):=
   ⟨by show 2<=sizeLine;decide,[u,u2],.cons ru (.cons ru2 .nil),⟨_,hT2,rfl,_,rfl⟩⟩
  have I1:bJ X pins σ (upd H s.heap.objs.size (.tup [x,y])) {s with heap:=h2'}:=
   I.oG (t':=s.toks) (ch:=[z,TI,TO,i1,i2]) (fun c o hb q=>(sb.2 c (fun q'=>hb (by simp[q']))).trans (hk c o (fun q'=>hb (by simp[q'])) (fun q'=>hb (by simp[q'])) (fun q'=>hb (by simp[q'])) (fun q'=>hb (by simp[q'])) q)) hf (aq _) new
  refine⟨.ref s.heap.objs.size,_,I1,rfl,⟨_,x,y,rfl,I.hok.fresh (aq _),rfl,fun l hl=>by rw[I.qy hl UX];exact hx,fun l hl=>?_⟩,⟨z2,?_,⟨u,u2,?_⟩,?_,?_⟩,fun c SE=>?_⟩
  ·obtain⟨YW,rv3,p3,_⟩:=I.tuple hl;have e1:YW=its2:=by
    obtain⟨o3,q3,_,n3,d3⟩:=p3;obtain⟨o4,q4,_,n4,d4⟩:=p2;rw[q3]at q4;cases q4;rw[d3]at d4;injection d4 with d5 _;have:=congrArg Array.toList d5;simpa using this
   subst e1;rw[cC.inj rv3 YV];exact hy
  ·exact(sb.2 _ D.TIz).trans (hk _ _ D.TIz D.TITO D.TIi1 D.TIi2 hTI)
  ·exact(sb.2 _ D.TOz).trans m2
  ·exact m3.at fun o q=>(sb.2 _ D.i1z).trans q
  ·obtain⟨o,e1,e2⟩:=m4;exact⟨o,(sb.2 _ D.i2z).trans e1,e2⟩
  ·have hlt:c<s.heap.objs.size:=by
    rcases (by simpa using SE:c=z\/c=TI\/c=TO\/c=i1\/c=i2)with q|q|q|q|q
    ·rw[q];exact hzl
    ·rw[q];exact aF hTI
    ·rw[q];exact aF hTO
    ·rw[q];obtain⟨_,e1,_⟩:=h1;exact aF e1
    ·rw[q];obtain⟨_,e2,_⟩:=h2;exact aF e2
   rw[aI (aT hlt)];exact(hf c SE).1
 done:=by
  intro X hP hw hK hc i pins s σ H E I hf st hg;subst hP hw hK;obtain⟨hz,hTI,⟨x0,y0,hTO⟩,h1,h2⟩:=st;obtain⟨xs,ys,UX,XE,hend⟩:=hg;obtain⟨its,rv,p,_⟩:=I.list UX;have l1:=rv.length;exact Kl (I.ok.hd hc) D hz hTI hTO h1 p.isList (by simp;omega) fun h' hk=>⟨rfl,I.O9 (t':=s.toks) (ch:=[z,TI,TO,i1,i2]) (fun c o hb q=>
   hk c o (fun q'=>hb (by simp[q'])) (fun q'=>hb (by simp[q'])) (fun q'=>hb (by simp[q'])) (fun q'=>hb (by simp[q'])) q) hf⟩
 self:=fun A i s Q E st h=>wpAny_pyIter_zip st.1 h
def VS(K:PySem.W.Frag)(ta:TA):TI:=fun σ H R=>ta σ H fun vs H1=>∃a b xs ys,vs=[.ref a,.ref b]/\cI K H1 a xs/\lD K H1 b ys/\R (VR K a b) H1
theorem Ph{X:Cx}{e e2:Expr}{ta:TA}{p pos tpos:Pos}{elts:List Expr}{kk:Nat}(hg:Gl X "zip")(hm:X.mg "zip"=none)(ha:PA X [e,e2] ta)
  (hs:starEach [e,e2] X.env=(false,eval e X.env)::starEach [e2] X.env:=by rfl) (hpl:(backTo pos (starEach [e2] X.env)).any (·.1)=false:=by rfl):
  PI X (.Tuple elts kk tpos) (.Call (.Name "zip" p) [e,e2] [] pos) (VS X.K ta):=by
 intro pins s σ H R I h;refine Call_ (qw I hg hm J8 (gj (dI (ha pos pins s σ H _ I h) fun us s1 eT=>?_) hs hpl));obtain⟨vs,H1,I1,r1,q1⟩:=eT;obtain⟨a,b,xs,ys,ex,UX,XE,q⟩:=q1;subst ex;cases r1 with
 |cons r rr=>
  cases rr with
  |cons r' rr=>
   cases rr;cases r;cases r';obtain⟨its,rv,p1,_⟩:=I1.list UX;obtain⟨its2,YV,p2,_⟩:=I1.tuple XE;have la:a<s1.heap.objs.size:=p1.lt;have lb:b<s1.heap.objs.size:=p2.lt;refine Km p1.isList p2 fun h' hz hTI hTO h1 h2 hk=>wpAny_pyIter_zip hz ?_;have I2:bJ X pins σ H1 {s1 with heap:=h'}:=I1.kept (t':=s1.toks) hk;refine⟨s1.heap.objs.size+4,[s1.heap.objs.size+4,s1.heap.objs.size+2,s1.heap.objs.size+3,s1.heap.objs.size,s1.heap.objs.size+1],_,_,H1,rfl,I2,Kn (PySem.W.ktu_apart s1.heap.objs.size a b la lb),⟨hz,hTI,⟨_,_,hTO⟩,h1,h2⟩,fun c SE=>?_,q⟩;have hle:s1.heap.objs.size<=c:=by
    rcases (by simpa using SE:c=s1.heap.objs.size+4\/c=s1.heap.objs.size+2\/c=s1.heap.objs.size+3\/c=s1.heap.objs.size\/c=s1.heap.objs.size+1)with z|z|z|z|z<;>rw[z]<;>omega
   exact I1.GC hle (I1.hok.fresh hle)
section
variable{prog:Program}{w:World}{K:Type}[DecidableEq K]{knd:HeapKind prog w K}{A:Around}{E:Value->Shared->Prop}{s:Shared}{d a:Addr}
theorem Ko{xs:List (K×Addr×Value)}{k:K}{y:Value}{Q:Value->Shared->Prop}(hu:knd.room A)(hkey:knd.is s.heap k a)(hm:s.heap.DictOfH knd d xs)(z:xs.length<=sizeLine)
  (h1:∀p,atKey xs k=some p->Q p.2 {s with toks:=s.toks+knd.draws k})
  (h2:atKey xs k=none->∀h',h'.DictOfH knd d (storedH xs k a y)->Heap.SameBut d s.heap h'->Q y {s with heap:=h',toks:=s.toks+knd.draws k}):
  wpAny (model prog w) A (dictSetDefault d (.ref a) y) Q E s:=by
 obtain⟨o,es,ep,ho,hc,hd,he,his,hn⟩:=hm;unfold dictSetDefault
 try with_reducible refine dB ?_
 refine aa (knd.pyHash hu hkey (aa (wpAny_dictFind_heap (s:={s with toks:=s.toks+knd.draws k}) hu hkey ho hd he his hn (fun no=>?_) fun j p hj=>?_)))
 ·have nk:=atKey_none_of_get no;refine aa (ou (aa (wpAny_updateDictKeys (hz:=by have e:=size_of_entries he;omega) (s:={s with toks:=s.toks+knd.draws k}) ho hd (ak (h2 nk _ ⟨_,_,ep+1,cU _ ho (Obj.isFreed_of_dict (Obj.data_mapDictKeys hd _)),hc.mapDictKeys _,Obj.data_mapDictKeys hd _,?_,?_,?_⟩ (ee ..))))))
  ·rw[storedH_new nk];simp[he,entryOfKey]
  ·rw[storedH_new nk];intro x hx;rcases List.mem_append.mp hx with hx|hx
   ·exact knd.keeps (his x hx) ho hd (ee ..)
   ·rw[List.mem_singleton.mp hx];exact knd.keeps hkey ho hd (ee ..)
  ·rw[storedH_new nk,aX,List.nodup_append];refine⟨hn,by simp,fun x hx y hy e=>not_mem_keys_of_get no ?_⟩;rw[aV,qj,wu]at hy;have e2:x=k:=e.trans hy;rw[<- e2];exact hx
 ·refine aa (dH (s:={s with toks:=s.toks+knd.draws k}) ho hd ?_);rw[entry_at he j,hj];exact aa (ou (ak (h1 p (atKey_of_get hn hj))))
theorem vf(hd:(d==sysModules)=false)(y:Value):
  MeetsIn prog w (Builtin.«dict.setdefault» ⟨[.ref d,.ref a,y],[]⟩) (fun A R s=>knd.room A.in1/\∃k xs,knd.is s.heap k a/\s.heap.DictOfH knd d xs/\xs.length<=sizeLine/\
   (∀p,atKey xs k=some p->R (.ok (.ret p.2)) {s with toks:=s.toks+knd.draws k})/\
   (atKey xs k=none->∀h',h'.DictOfH knd d (storedH xs k a y)->Heap.SameBut d s.heap h'->R (.ok (.ret y)) {s with heap:=h',toks:=s.toks+knd.draws k})):=
 .of_wp fun A R s ⟨hu,k,xs,hkey,hm,z,h1,h2⟩=>by
  unfold Builtin.«dict.setdefault»;refine aa ?_;unfold Builtin.Dict.keyAndDefault;refine aa (Gx hm.typeIs ?_);show wpAny _ _ (pure (d,Value.ref a,some y)) _ _ s;refine ak ?_;show wpAny _ _ (if(d==sysModules)=true then _ else(dictSetDefault d (.ref a) y >>=_)) _ _ s;rw[ao (by rw[hd];exact aU)];exact aa (Ko hu hkey hm z (fun p hp=>ak ⟨p.2,rfl,h1 p hp⟩) fun hn h' hm' hs'=>ak ⟨y,rfl,h2 hn h' hm' hs'⟩)
end
def SG(td ty tx:TE):TE:=fun σ H Q=>td σ H fun x H1=>∃a,x=.ref a/\Sl H1 a/\ty σ H1 fun y H2=>tx σ H2 fun z H3=>∃(kvs:List (List Key×V)) (k:List Key) (b:Addr),H3 a=some (.dT kvs)/\y=.ref b/\H3 b=some (.tup (k.map kV))/\kvs.length<sizeLine/\
 (∀v,dc kvs k=some v->Q v H3)/\(dc kvs k=none->Q z (upd H3 a (.dT (putK kvs k z))))
section
variable{X:Cx}{o e f:Expr}{apos cpos:Pos}{td ty tx:TE}
theorem My(hu:X.A.units+1<cLine)(ho:PE X o td)(he:PE X e ty)(hf:PE X f tx)(m:M2 X o "setdefault" apos e f cpos):PE X (.Call (.Attribute o "setdefault" apos) [e,f] [] cpos) (SG td ty tx):=by
 intro pins s σ H Q I h;refine gw m.base m.few m.line fR PySem.F.slot_dict_setdefault PySem.F.type_dict_setdefault (dI (ho pins s σ H _ I h) fun u s1 eT=>?_);obtain⟨x,H1,I1,rx,a,ex,d,q1⟩:=eT;subst ex;obtain rfl:u=Value.ref a:=rx;obtain⟨t1,t2,_⟩:=wK I1 d;refine⟨t1,t2,?_⟩;rw[m.trees];refine fu rfl (f7 (dR (dI (he pins s1 σ H1 _ I1 q1) fun iv s2 ⟨y,H2,I2,ry,q2⟩=>
  dR (dI (hf pins s2 σ H2 _ I2 q2) fun fv s3 ⟨z,H3,I3,rz,kvs,k,b,ea,ey,eb,hl,q3,q4⟩=>iP ?_))))
 subst ey;obtain rfl:iv=Value.ref b:=ry;obtain⟨zl,hd,xs,rel,dd⟩:=Q9 I3.hok ea;have hz:xs.length<=sizeLine:=by rw[<- bg rel];exact zl
 have rv:=rel.val k;refine jR PySem.F.slot_dict_setdefault dd.typeIs PySem.F.entry_dict_setdefault (PySem.F.args_dict_setdefault_3 _ _ _) (vf (knd:=tupleKind (cN X.prog X.w)) hd fv) ⟨gW hu,k,xs,qJ I3.hok eb,dd,hz,fun p hp=>?_,fun hn h' Bf hs=>?_⟩
 ·rw[hp]at rv;cases l:dc kvs k with
  |none=>rw[l]at rv;exact rv.elim
  |some v=>
   rw[l]at rv;exact⟨v,H3,I3.tok _,rv,q3 v l⟩
 ·rw[hn]at rv;cases l:dc kvs k with
  |some v=>rw[l]at rv;exact rv.elim
  |none=>
   have hl2:(putK kvs k z).length<=sizeLine:=by have:=fN kvs k z;omega
   obtain⟨q,es,ep,hq,g2,g3,g4,_,g5⟩:=Bf;refine⟨z,_,nE (ob:=.dT (putK kvs k z)) I3 (by rw[ea];exact True.intro) hs ⟨q,hq⟩ ⟨hl2,hd,_,(rel.put k eb rz).keeps fun c ys ec=>?_,q,es,ep,hq,g2,g3,g4,g5⟩,rz,q4 l⟩;rw[aI (ic ec ea (fun z=>nomatch z))];exact ec
end
section
variable{X:Cx}
theorem Mz:lE X (.type "dict") (fun vs H Q=>∃(a:Addr) (kvs:List (Key×V)),vs=[V.ref a]/\Rd H a (.dK kvs)/\∀p,H p=none->Q (.ref p) (upd H p (.dK kvs))):=by
 intro pins s σ H vs us Q I r h;obtain⟨a,kvs,rfl,hs,q⟩:=h;rw[cC.zh r];exact Mj I hs fun p s' hp I'=>⟨.ref p,_,I',rfl,q p hp⟩
def SH(td te:TE):TE:=fun σ H Q=>td σ H fun x H1=>∃a,x=.ref a/\Sl H1 a/\te σ H1 fun y H2=>∃(b:Addr) (kvs:List (Key×V)) (k:Key) (v:V),y=.ref b/\H2 a=some (.dK kvs)/\Rd H2 b (.dK [(k,v)])/\a≠b/\kvs.length<sizeLine/\Q .dY (upd H2 a (.dK (putK kvs k v)))
variable{o e:Expr}{apos cpos:Pos}{td te:TE}
theorem MA(ho:PE X o td)(he:PE X e te)(m:M1 X o "update" apos e cpos):PE X (.Call (.Attribute o "update" apos) [e] [] cpos) (SH td te):=by
 intro pins s σ H Q I h;refine gw m.base m.few m.line fR PySem.F.slot_dict_update PySem.F.type_dict_update (dI (ho pins s σ H _ I h) fun u s1 eT=>?_);obtain⟨x,H1,I1,rx,a,ex,d,q1⟩:=eT;subst ex;obtain rfl:u=Value.ref a:=rx;obtain⟨t1,t2,_⟩:=wK I1 d;refine⟨t1,t2,?_⟩;rw[m.trees];refine fu rfl (f7 (dR (dI (he pins s1 σ H1 _ I1 q1) fun iv s2 ⟨y,H2,I2,ry,b,kvs,k,v,ey,ea,eb,ne,hl,q2⟩=>iP ?_)));subst ey;obtain rfl:iv=Value.ref b:=ry;obtain⟨zl,hd,vs,rel,dd⟩:=EC I2.hok ea;obtain⟨_,hb,ws,YX,dd2⟩:=qI I2.hok eb;cases YX with
 | @cons p q l1 l2 r t=>
  cases t;obtain⟨qk,qv⟩:=q;obtain⟨r1,r2⟩:=r;obtain rfl:k=qk:=r1;have hlen:vs.length=kvs.length:=(bg rel).symm;refine jR PySem.F.slot_dict_update dd.typeIs PySem.F.entry_dict_update (PySem.F.args_dict_update_2 _ _) (meets_dict_update (cN X.prog X.w) a b ne hb) ⟨vs,[(k,qv)],dd,dd2,by rw[hlen];exact hl,fun h' Bf _ hs=>?_⟩;have e1:merged vs [(k,qv)]=stored vs k qv:=rfl;rw[e1]at Bf;have hl2:(putK kvs k v).length<=sizeLine:=by have:=fN kvs k v;omega
  have ho':∃q,h'.get? a=some q:=let ⟨q,_,_,hq,_⟩:=Bf;⟨q,hq⟩;exact⟨.dY,_,nE (t':=s2.toks) I2 (by rw[ea];exact True.intro) hs ho' (zk hl2 hd (rel.put k r2) Bf),rfl,q2⟩
end
section
variable{X:Cx}
def YY(te:TE):TE:=fun σ H Q=>te σ H fun x H1=>∃i:Int,x=.int i/\i.natAbs.log2<1920/\Q (.str (toString i)) H1
theorem zB{e:Expr}{te:TE}{pos:Pos}(he:PE X e te):PE X (.FormattedValue e (-1) none pos) (YY te):=by
 intro pins s σ H Q I h;refine FormattedValue_plain (dI (he pins s σ H _ I h) fun u s1 eT=>?_);obtain⟨x,H1,I1,rx,i,ex,hi,q⟩:=eT;subst ex;obtain⟨t,rfl⟩:=rx;exact formatField_int_small hi ⟨.str (toString i),H1,I1.tok _,⟨_,rfl⟩,q⟩
abbrev TJ:=St->Hp->Str->(Str->Hp->Prop)->Prop
def PJ(X:Cx)(es:List Expr)(t:TJ):Prop:=
 ∀(pins:List (Addr×Obj)) (s:Shared) (σ:St) (H:Hp) (out:Str) (Q:VK),bJ X pins σ H s->t σ H out (fun x H'=>Q (.str x) H')->wpAny (model X.prog X.w) X.A (joinParts out (evalEach es X.env)) (EP X pins σ Q) X.xe s
def VT:TJ:=fun _ H out Q=>out.length<=sizeLine/\Q out H
def SI(te:TE)(tr:TJ):TJ:=fun σ H out Q=>te σ H fun v H1=>∃y:Str,v=.str y/\(out++y).length<=sizeLine/\tr σ H1 (out++y) Q
theorem G8:PJ X [] VT:=fun pins s σ H out Q I h=>joinParts_nil ⟨.str out,H,I.tok _,⟨_,rfl⟩,h.2⟩ h.1
theorem iY{e:Expr}{es:List Expr}{te:TE}{tr:TJ}(he:PE X e te)(hr:PJ X es tr)(hs:evalEach (e::es) X.env=eval e X.env::evalEach es X.env:=by rfl):PJ X (e::es) (SI te tr):=by
 intro pins s σ H out Q I h;rw[hs];refine joinParts_cons (dI (he pins s σ H _ I h) fun u s1 eT=>?_);obtain⟨x,H1,I1,rx,y,ex,hl,q⟩:=eT;subst ex;obtain⟨t,rfl⟩:=rx;exact⟨hl,hr pins s1 σ H1 _ Q I1 q⟩
def VU(t:TJ):TE:=fun σ H Q=>t σ H Str.empty fun x H'=>Q (.str x) H'
theorem zC{e1 e2:Expr}{es:List Expr}{t:TJ}{pos:Pos}(h:PJ X (e1::e2::es) t)(hs:evalEach (e1::e2::es) X.env=eval e1 X.env::eval e2 X.env::evalEach es X.env:=by rfl):PE X (.JoinedStr (e1::e2::es) pos) (VU t):=by
 intro pins s σ H Q I hh;have k:=h pins s σ H Str.empty Q I hh;rw[hs]at k;exact JoinedStr_many k
end
structure Xr (K:PySem.W.Frag) (a:Addr) (es:Array DictEntry):Prop where
 obj:∃o ep,K.lookup a=some o/\o.ExactDict/\o.data=.dict es ep
 keys:∀e∈es.toList,∃i t,e.key=.int i t/\e.hash=hashInt i
section
variable{X:Cx}
def VW(es:Array DictEntry)(ty:TE):TE:=fun σ H Q=>ty σ H fun y H1=>∃(c:Int) (b:Addr),y=.int c/\(es.find? fun e=>p5 (Sum.inl c) e.key).map (·.val)=some (.ref b)/\Q (.ref b) H1
theorem Pj{x:Str}{a:Addr}{es:Array DictEntry}{i:Expr}{ty:TE}{p pos:Pos}(kt:Xr X.K a es)(hg:Gl X x)(hm:X.mg x=some (.ref a))(hi:PE X i ty)(hs:O4 i)(hd:(x==("__debug__" :Str))=false:=by decide):
  PE X (.Subscript (.Name x p) i pos) (VW es ty):=by
 intro pins s σ H Q I h;obtain⟨o,ep,lk,hx,hdt⟩:=kt.obj;refine IC PySem.F.slot_dict_getitem.lookup hs (lT I hg hm (dI (hi pins s σ H _ I h) fun iv s2 eT=>?_) hd);obtain⟨y,H2,I2,ry,c,b,ey,g,q2⟩:=eT;subst ey;have go:=I2.o7 _ _ lk;refine⟨⟨o,go,hx.1⟩,?_⟩;have mp:s2.heap.MapOf (cN X.prog X.w) a (fun k=>findBy (cN X.prog X.w).is es k):=by
  refine⟨o,es,ep,go,hx,hdt,fun e he=>?_,fun _=>rfl⟩;obtain⟨j,t,e1,e2⟩:=kt.keys e (Array.mem_toList_iff.mpr he);exact⟨Sum.inl j,by rw[e1];exact xA _ _ j t,e2⟩
 refine wpAny_getItem_of (qH (k:=Sum.inl c) ry) mp (v:=.ref b) ?_ ⟨.ref b,H2,I2.tok _,rfl,q2⟩;exact g
end
section
variable{X:Cx}{tg e:Expr}{td:TE}{apos cpos:Pos}
def SJ(td:TE):TI:=fun σ H R=>td σ H fun x H1=>∃(d:Addr) (kvs:List (List Key×V)),x=.ref d/\H1 d=some (.dT kvs)/\∀o,R (VF d o kvs) (upd H1 d (.jy o (.dT kvs)))
theorem MB(he:PE X e td):PI X tg e (SJ td):=by
 intro pins s σ H R I h;refine dI (he pins s σ H _ I h) fun u s1 eT=>?_;obtain⟨x,H1,I1,rx,d,kvs,ex,hd,q⟩:=eT;subst ex;obtain rfl:u=Value.ref d:=rx;obtain⟨o,I2⟩:=I1.lock hd trivial;obtain⟨hs,hgd,hx,es,ep,hdt,hsz,ent⟩:=I2.Pc aj;refine wM hs hgd hx hdt (wL (tk:=s1.toks) I2 _ (GV _ hdt) ⟨_,aE _ rfl,rfl,?_⟩ (q o));rw[hsz]<;>rfl
def Pk(td:TE):TI:=fun σ H R=>td σ H fun x H1=>∃(d:Addr) (kvs:List (List Key×V)),x=.ref d/\H1 d=some (.dT kvs)/\∀o,R (VN d o kvs) (upd H1 d (.jy o (.dT kvs)))
theorem EV{prog:Program}{w:World}(a:Addr)(ob:Obj)(es:Array DictEntry)(ep:Nat)(na:(a==sysModules)=false)(g2:ob.ExactDict)(g3:ob.data=.dict es ep):
  MeetsIn prog w (Builtin.«dict.items» ⟨[.ref a],[]⟩) (fun _ R s=>s.heap.get? a=some ob/\R (.ok (.ret (.ref s.heap.objs.size))) {s with heap:=s.heap.push {cls:=.type "dict_items",data:=.fields #[.ref a]}}):=
 .of_wp fun A R s ⟨g1,h⟩=>G0 na g1 g2 g3 h
theorem BX{elts:List Expr}{kk:Nat}{tpos:Pos}(he:PE X e td)(hbase:attributeBase e "items" X.env (eval e X.env)=eval e X.env:=by rfl)(hline:(apos.endLine==cpos.line)=true:=by rfl):
  PI X (.Tuple elts kk tpos) (.Call (.Attribute e "items" apos) [] [] cpos) (Pk td):=by
 intro pins s σ H R I h;refine gw (T:="dict") (id:="dict.items") hbase rfl hline F.plainAttrs_dict A3 F.type_dict_items (dI (he pins s σ H _ I h) fun u s1 eT=>?_);obtain⟨x,H1,I1,rx,d,kvs,ex,hd,q⟩:=eT;subst ex;obtain rfl:u=Value.ref d:=rx;obtain⟨o,I2⟩:=I1.lock hd trivial;obtain⟨hs,hgd,hx,es,ep,hdt,hsz,ent⟩:=I2.Pc aj;have ty:s1.TypeIs (.ref d) "dict":=⟨o,hgd,hx.1⟩
 refine⟨ty,fun b q=>by cases q;exact⟨o,hgd,hx.2.1⟩,?_⟩;have I3:bJ X pins σ (upd H1 d (.jy o (.dT kvs))) {s1 with heap:=s1.heap.push {cls:=.type "dict_items",data:=.fields #[.ref d]}}:=I2.kept (t':=s1.toks) fun b ob q=>af _ q;have fin:wpAny (model X.prog X.w) X.A (pyIter (.ref s1.heap.objs.size)) (Vh X pins σ (.Tuple elts kk tpos) R) X.xe {s1 with heap:=s1.heap.push {cls:=.type "dict_items",data:=.fields #[.ref d]}}:=by
  refine G3 (a:=d) ⟨_,aE _ rfl,rfl,rfl⟩ (af _ hgd) hdt (wL (tk:=s1.toks) I3 _ (EO _ hdt) ⟨.none,.none,?_⟩ (q o));exact aE _ rfl
 show wpAny _ _ (callWith cpos (.builtin "dict.items") [.ref d] [] []) _ X.xe s1;exact method_meetsIn A3 F.entry_dict_items rfl (PySem.evalArgs_none ⟨rfl,ty,F.args_dict_items_1 _,_,EV d o es ep hs hx hdt,hgd,fin⟩)
end
theorem wR{J:It}{g:TG}{tb:TS}{D:wj}{σ:St}{H:Hp}(n:Nat)(Pv:Nat->St->Hp->Prop)(h0:Pv 0 σ H)
  (hs:∀i σ H,i<n->Pv i σ H->J.go i H/\∀x H',J.JV i H x H'->g x σ H' fun σ2 H2=>tb {D with nx:=Pv (i+1),ct:=Pv (i+1),bk:=D.nx} σ2 H2) (hd:∀σ H,Pv n σ H->J.stop n H/\D.nx σ H):
  ∃W:Nat->Nat->St->Hp->Prop,(∃m,W 0 m σ H)/\∀i m σ H,W i m σ H->
   (J.stop i H/\D.nx σ H)\/(J.go i H/\∃N:St->Hp->Prop,(∀σ' H',N σ' H'->∃m',m'<m/\W (i+1) m' σ' H')/\∀x H',J.JV i H x H'->g x σ H' fun σ2 H2=>tb {D with nx:=N,ct:=N,bk:=D.nx} σ2 H2):=by
 refine⟨fun i m σ H=>m=n-i/\i<=n/\Pv i σ H,⟨n,by simp,bu _,h0⟩,?_⟩;rintro i m σ H ⟨rfl,hi,p⟩;by_cases hlt:i<n
 ·obtain⟨g1,g2⟩:=hs i σ H hlt p;exact .inr ⟨g1,Pv (i+1),fun σ' H' p'=>⟨n-(i+1),by omega,rfl,hlt,p'⟩,g2⟩
 ·have e:i=n:=by omega
  subst e;exact .inl (hd σ H p)
theorem VX{J:It}{g:TG}{tt:TT}{te:TE}{vs:List Nat}{σ:St}{H1:Hp}{D:Addr}{Qd:Hp->Prop}(n:Nat)(Pv:Nat->Hp->Prop)(h0:Pv 0 (upd H1 D (.lst [])))
  (hs:∀i H,i<n->Pv i H->J.go i H/\∀x H',J.JV i H x H'->g x (wipe σ vs) H' fun σ2 H2=>wipe σ2 vs=wipe σ vs/\tt σ2 H2 fun b H3=>
   if b=true then te σ2 H3 fun y H4=>∃acc,H4 D=some (.lst acc)/\acc.length<sizeLine/\Pv (i+1) (upd H4 D (.lst (acc++[y])))else Pv (i+1) H3) (hd:∀H,Pv n H->J.stop n H/\Qd H):
  ∃W:Nat->Nat->Hp->Prop,(∃m,W 0 m (upd H1 D (.lst [])))/\∀i m H,W i m H->
   (J.stop i H/\Qd H)\/(J.go i H/\∃Nx:Hp->Prop,(∀H',Nx H'->∃m',m'<m/\W (i+1) m' H')/\∀x H',J.JV i H x H'->g x (wipe σ vs) H' fun σ2 H2=>wipe σ2 vs=wipe σ vs/\tt σ2 H2 fun b H3=>
    if b=true then te σ2 H3 fun y H4=>∃acc,H4 D=some (.lst acc)/\acc.length<sizeLine/\Nx (upd H4 D (.lst (acc++[y])))else Nx H3):=by
 refine⟨fun i m H=>m=n-i/\i<=n/\Pv i H,⟨n,by simp,bu _,h0⟩,?_⟩;rintro i m H ⟨rfl,hi,p⟩;by_cases hlt:i<n
 ·obtain⟨g1,g2⟩:=hs i H hlt p;exact .inr ⟨g1,Pv (i+1),fun H' p'=>⟨n-(i+1),by omega,rfl,hlt,p'⟩,g2⟩
 ·have e:i=n:=by omega
  subst e;exact .inl (hd H p)
end L2
namespace Sx
open PySem
def Lv:Nat->Int->Int
 |0,x=>x
 |n+1,x=>Lv n (5*x+1)
theorem C5:∀(m n:Nat) (x:Int),Lv (m+n) x=Lv n (Lv m x)
 |0,n,x=>by rw[kG];rfl
 |m+1,n,x=>by rw[show m+1+n=(m+n)+1 by omega];exact C5 m n (5*x+1)
theorem pow_two(k:Nat):2 ^ (k+1)=2 ^ k+2 ^ k:=by rw[Nat.pow_succ];omega
theorem II:∀k:Nat,∃m b:Int,∀x,Lv (2 ^ k) x=(1+4*(2:Int) ^ k*m)*x+(2:Int) ^ k*(2*b+1)
 |0=>⟨1,0,fun x=>by show 5*x+1=_;rw[Int.pow_zero];omega⟩
 |k+1=>by
  obtain⟨m,b,h⟩:=II k;refine⟨m+2*2 ^ k*m*m,b+2 ^ k*m*(2*b+1),fun x=>?_⟩;rw[pow_two,C5,h,h,Int.pow_succ];generalize (2:Int) ^ k=P
  grind
theorem EW:∀(k:Nat) (j x:Int),∃t:Nat,t<2 ^ k/\∃c:Int,Lv t x=j+(2:Int) ^ k*c
 |0,j,x=>⟨0,by decide,x-j,by show x=_;rw[Int.pow_zero];omega⟩
 |k+1,j,x=>by
  obtain⟨t,ht,c,hc⟩:=EW k j x;obtain⟨m,b,h⟩:=II k;have e:=pow_two k;have ec:c=2*(c / 2)+c%2:=by omega
  rcases (by omega:c%2=0\/c%2=1)with h0|h1
  ·refine⟨t,by omega,c / 2,?_⟩;rw[h0]at ec;rw[hc,Int.pow_succ];generalize (2:Int) ^ k=P;generalize c / 2=d at ec ⊢
   grind
  ·refine⟨t+2 ^ k,by omega,(c / 2)+1+b+2*m*(j+(2:Int) ^ k*c),?_⟩;rw[h1]at ec;rw[C5,h,hc,Int.pow_succ];generalize (2:Int) ^ k=P;generalize c / 2=d at ec ⊢;subst ec
   grind
theorem BY:∀(n:Nat) (M x c:Int),∃c',Lv n (x+M*c)=Lv n x+M*c'
 |0,M,x,c=>⟨c,rfl⟩
 |n+1,M,x,c=>by
  obtain⟨c',h⟩:=BY n M (5*x+1) (5*c);refine⟨c',?_⟩;show Lv n (5*(x+M*c)+1)=Lv n (5*x+1)+M*c';rw[<- h]
  congr 1
  grind
def mE(mask:Nat):Nat->Nat×Nat->Nat×Nat
 |0,p=>p
 |n+1,p=>mE mask n (SetTable.leap mask p.1 p.2)
theorem BZ(mask:Nat):∀(m n:Nat) (p:Nat×Nat),mE mask (m+n) p=mE mask n (mE mask m p)
 |0,n,p=>by rw[kG];rfl
 |m+1,n,p=>by rw[show m+1+n=(m+n)+1 by omega];exact BZ mask m n _
theorem qM(mask:Nat):∀(n:Nat) (p:Nat×Nat),p.1<=mask->(mE mask n p).1<=mask
 |0,p,h=>h
 |n+1,p,h=>qM mask n _ (by show(p.1*5+1+p.2 / 32)%(mask+1)<=mask;have:=yP (p.1*5+1+p.2 / 32) (show 0<mask+1 by omega);omega)
theorem B0(mask:Nat):∀(n:Nat) (p:Nat×Nat),(mE mask n p).2=p.2 / 32 ^ n
 |0,p=>by show p.2=_;rw[Nat.pow_zero,Nat.div_one]
 |n+1,p=>by
  show(mE mask n (SetTable.leap mask p.1 p.2)).2=_;rw[B0 mask n];show p.2 / 32 / 32 ^ n=_;rw[Nat.div_div_eq_div_mul,Nat.pow_succ,Nat.mul_comm]
theorem zD(mask:Nat):∀(n i:Nat),∃c:Int,((mE mask n (i,0)).1:Int)=Lv n (i:Int)+((mask+1:Nat):Int)*c
 |0,i=>⟨0,by show(i:Int)=i+_;omega⟩
 |n+1,i=>by
  have e0:SetTable.leap mask i 0=((i*5+1)%(mask+1),0):=rfl;obtain⟨c,h⟩:=zD mask n ((i*5+1)%(mask+1));have e1:(((i*5+1)%(mask+1):Nat):Int)=(5*(i:Int)+1)+((mask+1:Nat):Int)*(-(((i*5+1) / (mask+1):Nat):Int)):=by
   have:=Nat.mod_add_div (i*5+1) (mask+1);have z:(((i*5+1)%(mask+1):Nat):Int)+((mask+1:Nat):Int)*(((i*5+1) / (mask+1):Nat):Int)=((i*5+1:Nat):Int):=by exact_mod_cast this
   have z2:((i*5+1:Nat):Int)=5*(i:Int)+1:=by omega
   rw[z2]at z;rw[<- z]
   grind
  obtain⟨c',h'⟩:=BY n ((mask+1:Nat):Int) (5*(i:Int)+1) (-(((i*5+1) / (mask+1):Nat):Int));refine⟨c'+c,?_⟩;show((mE mask n (SetTable.leap mask i 0)).1:Int)=Lv n (5*(i:Int)+1)+_;rw[e0,h,e1,h']
  grind
theorem zE{mask k:Nat}(hk:mask+1=2 ^ k){i p j:Nat}(hi:i<=mask)(hp:p<2 ^ 64)(hj:j<=mask):∃n,n<SetTable.turns mask/\(mE mask n (i,p)).1=j:=by
 have SK:(mE mask 13 (i,p)).2=0:=by
  rw[B0];exact Nat.div_eq_of_lt (br hp (by decide))
 have l13:=qM mask 13 (i,p) hi;generalize hq:mE mask 13 (i,p)=q at SK l13;obtain⟨i2,p2⟩:=q;have e2:p2=0:=SK;subst e2;obtain⟨t,ht,c,hc⟩:=EW k (j:Int) (i2:Int);obtain⟨c2,hc2⟩:=zD mask t i2;have lt:=qM mask t (i2,0) l13;refine⟨13+t,by unfold SetTable.turns;omega,?_⟩;rw[BZ,hq];generalize (mE mask t (i2,0)).1=r at hc2 lt ⊢;have hk2:((mask+1:Nat):Int)=(2:Int) ^ k:=by rw[hk];exact Int.natCast_pow 2 k
 rw[hc, <- hk2]at hc2;have e3:(r:Int)=(j:Int)+((mask+1:Nat):Int)*(c+c2):=by rw[hc2];grind
 generalize c+c2=d at e3;have:d=0:=by
  rcases Int.lt_trichotomy d 0 with z|z|z
  ·have:((mask+1:Nat):Int)*d<=((mask+1:Nat):Int)*(-1):=Int.mul_le_mul_of_nonneg_left (by omega) (by omega);omega
  ·exact z
  ·have:((mask+1:Nat):Int)*1<=((mask+1:Nat):Int)*d:=Int.mul_le_mul_of_nonneg_left (by omega) (by omega);omega
 subst this;omega
theorem IJ(h:Int):SetTable.bits h<2 ^ 64:=by
 unfold SetTable.bits;have h1:=Int.emod_nonneg h (show(2 ^ 64:Int)≠0 by decide);have h2:=Int.emod_lt_of_pos h (show(0:Int)<2 ^ 64 by decide);omega
theorem B3{mask:Nat}{owner:Array (Option Nat)} :∀(fuel i p:Nat),SetTable.layClean.free mask owner fuel i p=none->∀n,n<fuel->(owner.getD (mE mask n (i,p)).1 (some 0)).isNone=false
 |0,_,_,_,n,hn=>absurd hn (lY _)
 |fuel+1,i,p,h,n,hn=>by
  unfold SetTable.layClean.free at h;cases hf:(List.range (SetTable.runEnd mask i+1-i)).find? fun k=>(owner.getD (i+k) (some 0)).isNone with
  |some k=>rw[hf]at h;cases h
  |none=>
   rw[hf]at h;cases n with
   |zero=>
    have h0:=List.find?_eq_none.mp hf 0 (List.mem_range.mpr (by unfold SetTable.runEnd;split<;>omega));show(owner.getD i (some 0)).isNone=false;rw[Nat.add_zero]at h0;exact Bool.eq_false_iff.mpr h0
   |succ n=>exact B3 fuel _ _ h n (yQ hn)
theorem B4{mask:Nat}{owner:Array (Option Nat)} :∀(fuel i p j:Nat),i<=mask->SetTable.layClean.free mask owner fuel i p=some j->j<=mask/\(owner.getD j (some 0)).isNone=true
 |0,_,_,_,_,h=>by cases h
 |fuel+1,i,p,j,hi,h=>by
  unfold SetTable.layClean.free at h;cases hf:(List.range (SetTable.runEnd mask i+1-i)).find? fun k=>(owner.getD (i+k) (some 0)).isNone with
  |some k=>
   rw[hf]at h;have e:i+k=j:=aQ h;have hk:=List.mem_range.mp (fB hf);have hq:=CJ hf;rw[e]at hq;refine⟨?_,hq⟩;unfold SetTable.runEnd at hk;split at hk<;>omega
  |none=>
   rw[hf]at h;exact B4 fuel _ _ j (by have:=qM mask 1 (i,p) hi;exact this) h
def OG(mask:Nat)(owner:Array (Option Nat)):List Nat:=(List.range (mask+1)).filterMap fun j=>owner.getD j none
theorem zF{f g:Nat->Option Nat} :∀{l:List Nat},(∀i∈l,g i=f i)->l.filterMap g=l.filterMap f
 |[],_=>rfl
 |a::l,h=>by
  have ih:=zF (l:=l) fun i hi=>h i (aG _ hi);have e:=h a (aL ..);cases q:f a with
  |none=>rw[fV q,fV (e.trans q),ih]
  |some b=>rw[eN q,eN (e.trans q),ih]
theorem tQ{f g:Nat->Option Nat}{j k:Nat}(h1:f j=none)(h2:g j=some k)(h3:∀i,i≠j->g i=f i):∀l:List Nat,l.Nodup->j∈l->(l.filterMap g).Perm (k::l.filterMap f)
 |[],_,h=>by cases h
 |a::l,nd,hm=>by
  rw[tL]at nd;by_cases e:a=j
  ·subst e;have z:l.filterMap g=l.filterMap f:=zF fun i hi=>h3 i fun q=>nd.1 (q ▸ hi);rw[eN h2,fV h1,z]
  ·have hm':j∈l:=by rcases List.mem_cons.mp hm with q|q;exact absurd q.symm e;exact q
   have ih:=tQ h1 h2 h3 l nd.2 hm';have e3:=h3 a e;cases q:f a with
   |none=>rw[fV q,fV (e3.trans q)];exact ih
   |some b=>
    rw[eN q,eN (e3.trans q)];exact(ih.cons b).trans (.swap k b _)
theorem qN{f:Nat->Option Nat} :∀l:List Nat,(∀j∈l,f j≠none)->(l.filterMap f).length=l.length
 |[],_=>rfl
 |a::l,h=>by
  cases q:f a with
  |none=>exact absurd q (h a (aL ..))
  |some b=>rw[eN q,az,az,qN l fun j hj=>h j (aG _ hj)]
theorem MC{mask K k:Nat}{owner:Array (Option Nat)}(hK:mask+1=2 ^ K)(hsz:owner.size=mask+1)(ho:(OG mask owner).Perm (List.range k))(hk:k<=mask)(h:Int):
  ∃j,SetTable.layClean.free mask owner (SetTable.turns mask) (SetTable.bits h%(mask+1)) (SetTable.bits h)=some j/\(owner.setIfInBounds j (some k)).size=mask+1/\(OG mask (owner.setIfInBounds j (some k))).Perm (List.range (k+1)):=by
 have hex:∃j0,j0<=mask/\owner.getD j0 none=none:=by
  refine uN fun no=>?_;have all:∀j∈List.range (mask+1),owner.getD j none≠none:=fun j hj q=>no ⟨j,by have:=List.mem_range.mp hj;omega,q⟩;have l1:=qN _ all;have l2:=ho.length_eq;unfold OG at l2;rw[l1,fU,fU]at l2;omega
 obtain⟨j0,hj0,e0⟩:=hex;have e0':(owner.getD j0 (some 0)).isNone=true:=by
  have hlt:j0<owner.size:=by omega
  simp only[Array.getD,hlt,dif_pos]at e0 ⊢;rw[e0];rfl
 have hi:SetTable.bits h%(mask+1)<=mask:=by have:=yP (SetTable.bits h) (show 0<mask+1 by omega);omega
 cases hf:SetTable.layClean.free mask owner (SetTable.turns mask) (SetTable.bits h%(mask+1)) (SetTable.bits h)with
 |none=>
  obtain⟨n,hn,e⟩:=zE hK hi (IJ h) hj0;have:=B3 _ _ _ hf n hn;rw[e,e0']at this;cases this
 |some j=>
  obtain⟨hj,hq⟩:=B4 _ _ _ j hi hf;have hlt:j<owner.size:=by omega
  refine⟨j,rfl,by rw[Array.size_setIfInBounds];exact hsz,?_⟩;have f1:owner.getD j none=none:=by
   simp only[Array.getD,hlt,dif_pos]at hq ⊢;exact Option.isNone_iff_eq_none.mp hq
  have f2:(owner.setIfInBounds j (some k)).getD j none=some k:=by simp[Array.getD,hlt]
  have f3:∀i,i≠j->(owner.setIfInBounds j (some k)).getD i none=owner.getD i none:=fun i ne=>by
   rw[Array.getD_eq_getD_getElem?,Array.getD_eq_getD_getElem?,Array.getElem?_setIfInBounds,ao (bP ne)]
  have p:=tQ (f:=fun j=>owner.getD j none) (g:=fun i=>(owner.setIfInBounds j (some k)).getD i none) f1 f2 f3 (List.range (mask+1)) List.nodup_range (List.mem_range.mpr (by omega));refine p.trans ((ho.cons k).trans ?_);rw[List.range_succ];exact(List.perm_append_comm (l₁:=[k]) (l₂:=List.range k))
theorem EX{mask K:Nat}(hK:mask+1=2 ^ K):∀(hs:List Int) (owner:Array (Option Nat)) (k:Nat),owner.size=mask+1->(OG mask owner).Perm (List.range k)->k+hs.length<=mask+1->
  ∃owner',hs.foldl (fun acc h=>do
   let (owner,k) <- acc
   let j <- SetTable.layClean.free mask owner (SetTable.turns mask) (SetTable.bits h%(mask+1)) (SetTable.bits h)
   pure (owner.setIfInBounds j (some k),k+1)) (some (owner,k))=some (owner',k+hs.length)/\(OG mask owner').Perm (List.range (k+hs.length))
 |[],owner,k,_,ho,_=>⟨owner,rfl,ho⟩
 |h::hs,owner,k,hsz,ho,hl=>by
  rw[az]at hl;obtain⟨j,e,h1,h2⟩:=MC hK hsz ho (by omega) h;obtain⟨owner',e2,h3⟩:=EX hK hs _ (k+1) h1 h2 (by omega);refine⟨owner',?_,?_⟩
  ·rw[List.foldl_cons];show List.foldl _ (do
    let j <- SetTable.layClean.free mask owner (SetTable.turns mask) (SetTable.bits h%(mask+1)) (SetTable.bits h)
    pure (owner.setIfInBounds j (some k),k+1)) hs=_
   rw[e];rw[show k+(h::hs).length=k+1+hs.length by rw[az];omega];exact e2
  ·rw[show k+(h::hs).length=k+1+hs.length by rw[az];omega];exact h3
def Up(xs:Array Nat):Prop:=∀i j,i<j->j<xs.size->xs.getD i 0<xs.getD j 0
theorem getD_in{xs:Array Nat}{i d:Nat}(h:i<xs.size):xs.getD i d=xs.getD i 0:=by simp[Array.getD,h]
theorem zG{xs:Array Nat}{j:Nat}(up:Up xs):∀(fuel lo hi:Nat),lo<=hi->hi<=xs.size->hi-lo<=fuel->(∀i,i<lo->xs.getD i 0<j)->(∀i,hi<=i->i<xs.size->j<=xs.getD i 0)->
  SetTable.below.go xs j fuel lo hi<=xs.size/\(∀i,i<SetTable.below.go xs j fuel lo hi->xs.getD i 0<j)/\∀i,SetTable.below.go xs j fuel lo hi<=i->i<xs.size->j<=xs.getD i 0
 |0,lo,hi,h1,h2,h3,h4,h5=>by
  have e:lo=hi:=by omega
  subst e;exact⟨h2,h4,h5⟩
 |fuel+1,lo,hi,h1,h2,h3,h4,h5=>by
  unfold SetTable.below.go;by_cases hlt:lo<hi
  ·rw[aB hlt];have hm:(lo+hi) / 2<hi:=by omega
   have hm2:lo<=(lo+hi) / 2:=by omega
   have hms:(lo+hi) / 2<xs.size:=by omega
   dsimp only;rw[getD_in hms];by_cases hc:xs.getD ((lo+hi) / 2) 0<j
   ·rw[aB hc];refine zG up fuel _ hi (by omega) h2 (by omega) (fun i hi'=>?_) h5;rcases sV i ((lo+hi) / 2)with z|z
    ·exact nU (up i _ z hms) hc
    ·rw[show i=(lo+hi) / 2 by omega];exact hc
   ·rw[ao hc];refine zG up fuel lo _ hm2 (by omega) (by omega) h4 fun i hi' his=>?_;rcases sV ((lo+hi) / 2) i with z|z
    ·have:=up _ i z his;omega
    ·rw[show i=(lo+hi) / 2 by omega];omega
  ·rw[ao hlt];have e:lo=hi:=by omega
   subst e;exact⟨h2,h4,h5⟩
theorem pD{xs:Array Nat}(up:Up xs)(j:Nat):SetTable.below xs j<=xs.size/\(∀i,i<SetTable.below xs j->xs.getD i 0<j)/\∀i,SetTable.below xs j<=i->i<xs.size->j<=xs.getD i 0:=
 zG up xs.size 0 xs.size (bu _) (aq _) (by omega) (fun i h=>absurd h (lY _)) fun i h1 h2=>absurd h1 (by omega)
theorem VY{xs:Array Nat}(up:Up xs){i j:Nat}(h:i<=j)(hj:j<xs.size):xs.getD i 0<=xs.getD j 0:=by
 rcases sV i j with z|z
 ·exact kH (up i j z hj)
 ·rw[show i=j by omega];exact aq _
theorem below_at{xs:Array Nat}(up:Up xs){i:Nat}(h:i<xs.size):SetTable.below xs (xs.getD i 0+1)=i+1:=by
 obtain⟨h1,h2,h3⟩:=pD up (xs.getD i 0+1);generalize SetTable.below xs (xs.getD i 0+1)=c at h1 h2 h3;rcases Nat.lt_trichotomy c (i+1)with z|z|z
 ·have:=h3 i (by omega) h;omega
 ·exact z
 ·have:=h2 (i+1) z;have:=up i (i+1) (by omega) (by omega);omega
theorem G9{xs:Array Nat}(up:Up xs):SetTable.below xs 0=0:=by
 obtain⟨h1,h2,h3⟩:=pD up 0;rcases Nat.eq_zero_or_pos (SetTable.below xs 0)with z|z
 ·exact z
 ·exact absurd (h2 0 z) (lY _)
theorem mem_getD{xs:Array Nat}{j:Nat}(h:j∈xs.toList):∃i,i<xs.size/\xs.getD i 0=j:=by
 obtain⟨i,hi,e⟩:=List.mem_iff_getElem.mp h;have hi':i<xs.size:=by rw[<- aJ];exact hi
 exact⟨i,hi',by simp[Array.getD,hi', <- e]⟩
structure ji (t:SetTable) (n:Nat) (led:Bool):Prop where
 size:t.place.size=n
 up:Up t.place
 le:∀p∈t.place.toList,p<=t.mask
 VZ:t.dummies= #[]
 pow:∃K,t.mask+1=2 ^ K
 plain:t.plain=true
 led:t.led=led
theorem ji.fill{t:SetTable}{n:Nat}{led:Bool}(g:ji t n led):t.fill=n:=by unfold SetTable.fill;rw[g.size,g.VZ];rfl
theorem ji.fits{t:SetTable}{n:Nat}{led:Bool}(g:ji t n led)(h:n<=t.mask):t.fits n=true:=by
 unfold SetTable.fits;rw[g.size,g.fill];simp[h]
theorem Hf{t:SetTable}{n:Nat}{led:Bool}(g:ji t n led){j:Nat}(h:¬j∈t.place.toList):t.slot j=.empty:=by
 unfold SetTable.slot;have e1:(t.place[SetTable.below t.place j]? ==some j)=false:=by
  rw[Bool.eq_false_iff];intro q;have q':=jo q;exact h (Array.mem_toList_iff.mpr (Array.mem_of_getElem? q'))
 dsimp only;rw[e1,g.VZ];rfl
theorem MD{t:SetTable}{n:Nat}{led:Bool}(g:ji t n led){j:Nat}(h:t.slot j=.empty):¬j∈t.place.toList:=by
 intro hm;obtain⟨i,hi,e⟩:=mem_getD hm;obtain⟨h1,h2,h3⟩:=pD g.up j;have hb:SetTable.below t.place j<=i:=by
  rcases sV i (SetTable.below t.place j)with z|z
  ·have:=h2 i z;omega
  ·exact z
 have e2:t.place.getD (SetTable.below t.place j) 0=j:=by
  have q1:=h3 _ (aq _) (by omega);have q2:=VY g.up hb hi;omega
 have e3:(t.place[SetTable.below t.place j]? ==some j)=true:=by
  have hl:SetTable.below t.place j<t.place.size:=by omega
  have e4:t.place[SetTable.below t.place j]=j:=by simpa[Array.getD,hl]using e2
  rw[cz hl,e4];simp
 unfold SetTable.slot at h;dsimp only at h;rw[e3]at h;cases h
theorem uo{t:SetTable}{n:Nat}{led:Bool}(g:ji t n led)(j:Nat):t.slot j≠.dummy:=by
 unfold SetTable.slot;dsimp only;rw[g.VZ];split
 ·intro h;cases h
 ·intro h;cases h
section
variable{t:SetTable}{n:Nat}{led:Bool}{h:Int}
theorem zH(h:Int):(h+1==h)=false:=by rw[beq_eq_false_iff_ne];omega
theorem C6(g:ji t n led)(fuel:Nat)(p:SetTable.Probe)(e:SetTable.probe.go t (fun _=>h+1) h (fuel+1) p=none):t.slot p.j≠.empty/\SetTable.probe.go t (fun _=>h+1) h fuel (t.advance p)=none:=by
 unfold SetTable.probe.go at e;cases hs:t.slot p.j with
 |empty=>rw[hs]at e;cases e
 |dummy=>exact absurd hs (uo g _)
 |live i=>
  rw[hs]at e;dsimp only at e;rw[zH]at e;exact⟨(fun z=>by cases z),e⟩
theorem IK(g:ji t n led):∀(a b:Nat) (p:SetTable.Probe),SetTable.probe.go t (fun _=>h+1) h (a+b) p=none->SetTable.probe.go t (fun _=>h+1) h a p=none
 |0,b,p,_=>rfl
 |a+1,b,p,e=>by
  rw[show a+1+b=(a+b)+1 by omega]at e;obtain⟨h1,h2⟩:=C6 g _ p e;have ih:=IK g a b _ h2;unfold SetTable.probe.go;cases hs:t.slot p.j with
  |empty=>exact absurd hs h1
  |dummy=>exact absurd hs (uo g _)
  |live i=>
   dsimp only;rw[zH];exact ih
def qO(t:SetTable)(q:Nat×Nat):SetTable.Probe:={j:=q.1,more:=SetTable.runEnd t.mask q.1-q.1,i:=q.1,perturb:=q.2,dummy:=none}
theorem ME(g:ji t n led):∀(m fuel:Nat) (p:SetTable.Probe),p.more=m->p.dummy=none->SetTable.probe.go t (fun _=>h+1) h (m+1+fuel) p=none->
  t.slot p.j≠.empty/\SetTable.probe.go t (fun _=>h+1) h fuel (qO t (SetTable.leap t.mask p.i p.perturb))=none
 |0,fuel,p,hm,hd,e=>by
  rw[show 0+1+fuel=fuel+1 by omega]at e;obtain⟨h1,h2⟩:=C6 g _ p e;refine⟨h1,?_⟩;have ea:t.advance p=qO t (SetTable.leap t.mask p.i p.perturb):=by
   unfold SetTable.advance qO;rw[ao (by omega),hd]
  rw[<- ea];exact h2
 |m+1,fuel,p,hm,hd,e=>by
  rw[show m+1+1+fuel=(m+1+fuel)+1 by omega]at e;obtain⟨h1,h2⟩:=C6 g _ p e;have ea:t.advance p= {p with j:=p.j+1,more:=p.more-1}:=by
   unfold SetTable.advance;rw[aB (by omega)]
  rw[ea]at h2;have:=ME g m fuel {p with j:=p.j+1,more:=p.more-1} (by show p.more-1=m;omega) hd h2;exact⟨h1,this.2⟩
theorem IL(g:ji t n led):∀(T:Nat) (q:Nat×Nat),SetTable.probe.go t (fun _=>h+1) h (10*T) (qO t q)=none->∀k,k<T->t.slot (mE t.mask k q).1≠.empty
 |0,_,_,k,hk=>absurd hk (lY _)
 |T+1,q,e,k,hk=>by
  have hm:(qO t q).more<=9:=by
   show SetTable.runEnd t.mask q.1-q.1<=9;unfold SetTable.runEnd;split<;>omega
  generalize hmm:(qO t q).more=m at hm;rw[show 10*(T+1)=m+1+(10*T+(9-m)) by omega]at e;obtain⟨h1,h2⟩:=ME g m _ (qO t q) hmm rfl e;cases k with
  |zero=>exact h1
  |succ k=>exact IL g T _ (IK g _ _ _ h2) k (yQ hk)
theorem B5:∀(l m:List Nat),l.Nodup->(∀x∈l,x∈m)->l.length<=m.length
 |[],_,_,_=>bu _
 |a::l,m,nd,hs=>by
  rw[tL]at nd;have ha:=hs a (aL ..);have ih:=B5 l (m.erase a) nd.2 fun x hx=>(List.mem_erase_of_ne (fun q:x=a=>nd.1 (q ▸ hx))).mpr (hs x (aG _ hx));rw[List.length_erase_of_mem ha]at ih;have:=List.length_pos_of_mem ha;rw[az];omega
theorem zI(g:ji t n led):∀(fuel:Nat) (p:SetTable.Probe) (m:SetTable.Met),p.dummy=none->p.i<=t.mask->p.j+p.more<=t.mask->SetTable.probe.go t (fun _=>h+1) h fuel p=some m->∃j,m=.empty j none/\j<=t.mask/\t.slot j=.empty
 |0,_,_,_,_,_,e=>by cases e
 |fuel+1,p,m,hd,hi,hj,e=>by
  unfold SetTable.probe.go at e;cases hs:t.slot p.j with
  |empty=>
   rw[hs]at e;dsimp only at e;rw[hd]at e;exact⟨p.j,(aQ e).symm,by omega,hs⟩
  |dummy=>exact absurd hs (uo g _)
  |live i=>
   rw[hs]at e;dsimp only at e;rw[zH]at e;by_cases hm:p.more > 0
   ·have ea:t.advance p= {p with j:=p.j+1,more:=p.more-1}:=by unfold SetTable.advance;rw[aB hm]
    have e':SetTable.probe.go t (fun _=>h+1) h fuel (t.advance p)=some m:=e;rw[ea]at e';exact zI g fuel {p with j:=p.j+1,more:=p.more-1} m hd hi (by show p.j+1+(p.more-1)<=t.mask;omega) e'
   ·have ea:t.advance p=qO t (SetTable.leap t.mask p.i p.perturb):=by unfold SetTable.advance qO;rw[ao hm,hd]
    have e':SetTable.probe.go t (fun _=>h+1) h fuel (t.advance p)=some m:=e;rw[ea]at e';have hl:(SetTable.leap t.mask p.i p.perturb).1<=t.mask:=qM t.mask 1 (p.i,p.perturb) hi;refine zI g fuel _ m rfl hl ?_ e';show(SetTable.leap t.mask p.i p.perturb).1+(SetTable.runEnd t.mask (SetTable.leap t.mask p.i p.perturb).1-(SetTable.leap t.mask p.i p.perturb).1)<=t.mask;generalize (SetTable.leap t.mask p.i p.perturb).1=i' at hl;unfold SetTable.runEnd;split<;>omega
theorem Bp(g:ji t n led)(hn:n<=t.mask)(h:Int):∃j,t.freeSlot h=some (j,false)/\j<=t.mask/\¬j∈t.place.toList:=by
 obtain⟨K,hK⟩:=g.pow;have hi:SetTable.bits h%(t.mask+1)<=t.mask:=by have:=yP (SetTable.bits h) (show 0<t.mask+1 by omega);omega
 have hex:∃j,j<=t.mask/\¬j∈t.place.toList:=by
  refine uN fun no=>?_;have:=B5 (List.range (t.mask+1)) t.place.toList List.nodup_range fun x hx=>uN fun q=>no ⟨x,by have:=List.mem_range.mp hx;omega,q⟩;rw[fU,aJ,g.size]at this;omega
 obtain⟨j0,hj0,nj0⟩:=hex;have es:t.probeStart h=qO t (SetTable.bits h%(t.mask+1),SetTable.bits h):=rfl;unfold SetTable.freeSlot SetTable.probe;rw[es];cases hq:SetTable.probe.go t (fun _=>h+1) h (10*SetTable.turns t.mask) (qO t (SetTable.bits h%(t.mask+1),SetTable.bits h))with
 |none=>
  obtain⟨k,hk,e⟩:=zE hK hi (IJ h) hj0;have:=IL g _ _ hq k hk;rw[e]at this;exact absurd (Hf g nj0) this
 |some m=>
  obtain⟨j,rfl,hj,hs⟩:=zI g _ _ m rfl hi (by
   show SetTable.bits h%(t.mask+1)+(SetTable.runEnd t.mask (SetTable.bits h%(t.mask+1))-SetTable.bits h%(t.mask+1))<=t.mask;generalize SetTable.bits h%(t.mask+1)=i' at hi;unfold SetTable.runEnd;split<;>omega) hq
  exact⟨j,rfl,hj,MD g hs⟩
end
theorem tR{α:Type}(xs:Array α)(p:Nat)(x:α)(hp:p<=xs.size):(SetTable.insertAt xs p x).toList=xs.toList.take p++x::xs.toList.drop p:=by
 unfold SetTable.insertAt;simp[Array.toList_extract,List.extract_eq_drop_take,bN]
theorem insertAt_perm{α:Type}(xs:Array α)(p:Nat)(x:α)(hp:p<=xs.size):(SetTable.insertAt xs p x).toList.Perm (x::xs.toList):=by
 rw[tR xs p x hp];exact List.perm_middle.trans (by rw[gO])
theorem qP{xs:Array Nat}(h:xs.toList.Pairwise (· < ·)):Up xs:=by
 intro i j hij hj;have:=List.pairwise_iff_getElem.mp h i j (by rw[aJ];omega) (by rw[aJ];exact hj) hij;simpa[Array.getD,hj,show i<xs.size by omega]using this
theorem zJ{xs:Array Nat}(h:Up xs):xs.toList.Pairwise (· < ·):=by
 refine List.pairwise_iff_getElem.mpr fun i j hi hj hij=>?_;rw[aJ]at hi hj;have:=h i j hij hj;simpa[Array.getD,hj,hi]using this
theorem MF{t:SetTable}{n:Nat}{led:Bool}(g:ji t n led){j:Nat}(hj:j<=t.mask)(nj:¬j∈t.place.toList):ji (t.put j).1 (n+1) led/\(t.put j).2<=n/\(t.put j).1.mask=t.mask:=by
 obtain⟨h1,h2,h3⟩:=pD g.up j;have pl:(t.put j).1.place=SetTable.insertAt t.place (SetTable.below t.place j) j:=rfl;have perm:=insertAt_perm t.place (SetTable.below t.place j) j h1;refine⟨⟨?_,?_,fun p hp=>?_,?_,g.pow,g.plain,g.led⟩,by show SetTable.below t.place j<=n;rw[<- g.size];exact h1,rfl⟩
 ·rw[<- aJ,pl,perm.length_eq,az,aJ,g.size]
 ·rw[pl];refine qP ?_;rw[tR _ _ _ h1];have pw:=zJ g.up;have lt1:∀a∈t.place.toList.take (SetTable.below t.place j),a<j:=fun a ha=>by
   obtain⟨i,hi,e⟩:=List.mem_iff_getElem.mp ha;rw[b4,aJ]at hi;have:=h2 i (by omega);rw[List.getElem_take]at e;have hi':i<t.place.size:=by omega
   simp only[Array.getD,hi',dif_pos]at this;rw[<- e];simpa using this
  have lt2:∀b∈t.place.toList.drop (SetTable.below t.place j),j<b:=fun b hb=>by
   have hne:b≠j:=fun q=>nj (q ▸ List.mem_of_mem_drop hb);obtain⟨i,hi,e⟩:=List.mem_iff_getElem.mp hb;rw[iW,aJ]at hi;rw[List.getElem_drop]at e;have hi':SetTable.below t.place j+i<t.place.size:=by omega
   have:=h3 (SetTable.below t.place j+i) (by omega) hi';simp only[Array.getD,hi',dif_pos]at this;have e2:t.place[SetTable.below t.place j+i]=b:=by rw[<- e];simp
   have e3:j<=b:=by rw[<- e2];exact this
   omega
  rw[kX];refine⟨pw.take,List.pairwise_cons.mpr ⟨lt2,pw.drop⟩,fun a ha b hb=>?_⟩;rcases List.mem_cons.mp hb with z|z
  ·rw[z];exact lt1 a ha
  ·exact nU (lt1 a ha) (lt2 b z)
 ·rw[pl]at hp;rcases List.mem_cons.mp (perm.mem_iff.mp hp)with z|z
  ·rw[z];exact hj
  ·exact g.le p z
 ·show(if SetTable.has t.dummies j=true then _ else t.dummies)= #[];rw[g.VZ];rfl
theorem EY{t:SetTable}{n:Nat}{led:Bool}{es:Array (Int×Value)}(g:ji t n led)(hn:n<t.mask)(he:es.size=n)(h:Int)(x:Value):
  ∃es' t',layNew t es h x=(es',t',false,false)/\ji t' (n+1) led/\t'.mask=t.mask/\es'.toList.Perm ((h,x)::es.toList):=by
 obtain⟨j,e,hj,nj⟩:=Bp g (kH hn) h;obtain⟨g',hp,hm⟩:=MF g hj nj;have perm:=insertAt_perm es (t.put j).2 (h,x) (by rw[he];exact hp);have sz:(SetTable.insertAt es (t.put j).2 (h,x)).size=n+1:=by rw[<- aJ,perm.length_eq,az,aJ,he]
 have fit:(t.put j).1.fits (SetTable.insertAt es (t.put j).2 (h,x)).size=true:=by rw[sz];exact g'.fits (by rw[hm];omega)
 refine⟨SetTable.insertAt es (t.put j).2 (h,x),(t.put j).1,?_,g',hm,perm⟩;unfold layNew;rw[e];dsimp only;unfold SetTable.orStandIn;rw[fit];rfl
theorem Hg(f:Nat->Option Nat)(hf:∀j r,f j=some r->r=j):∀l:List Nat,(l.filterMap f).Sublist l
 |[]=>.refl _
 |a::l=>by
  cases q:f a with
  |none=>rw[fV q];exact(Hg f hf l).cons a
  |some b=>
   rw[eN q,hf a b q];exact(Hg f hf l).cons_cons a
theorem B6{mask K:Nat}(hK:mask+1=2 ^ K){hs:Array Int}(hn:hs.size<=mask)(finger moves:Nat)(led:Bool):
  ∃t order,SetTable.laid mask finger moves led true hs=some (t,order)/\ji t hs.size led/\t.mask=mask/\order.toList.Perm (List.range hs.size):=by
 have o0:(OG mask (Array.replicate (mask+1) none)).Perm (List.range 0):=by
  have:OG mask (Array.replicate (mask+1) none)=[]:=by
   unfold OG;rw[List.filterMap_eq_nil_iff];intro j _;simp[Array.getD]
  rw[this];exact .refl _
 obtain⟨owner,e,h2⟩:=EX hK hs.toList (Array.replicate (mask+1) none) 0 (by simp) o0 (by rw[aJ];omega);rw[kG,aJ]at e h2;have e1:SetTable.layClean mask hs=some owner:=by
  unfold SetTable.layClean;rw[<- Array.foldl_toList];have e':=congrArg (Option.map Prod.fst) e;exact e'
 have eo:((List.range (mask+1)).filterMap fun j=>(owner.getD j none).map (j, ·)).map (·.2)=OG mask owner:=by
  unfold OG;rw[List.map_filterMap];refine zF fun j _=>?_;cases owner.getD j none<;>rfl
 have sub:(((List.range (mask+1)).filterMap fun j=>(owner.getD j none).map (j, ·)).map (·.1)).Sublist (List.range (mask+1)):=by
  rw[List.map_filterMap];exact Hg _ (fun j r hr=>by
   cases q:owner.getD j none with
   |none=>rw[q]at hr;cases hr
   |some b=>rw[q]at hr;exact(aQ hr).symm) _
 generalize hlv:(List.range (mask+1)).filterMap (fun j=>(owner.getD j none).map (j, ·))=live at eo sub;have lp:(live.map (·.1)).length=hs.size:=by
  have:=h2.length_eq;rw[<- eo,ai,fU]at this;rw[ai];exact this
 refine⟨{mask,place:=(live.map (·.1)).toArray,dummies:= #[],finger,led,moves,plain:=true},(live.map (·.2)).toArray,by unfold SetTable.laid;rw[e1, <- hlv];rfl,⟨?_,?_,fun p hp=>?_,rfl,⟨K,hK⟩,rfl,rfl⟩,rfl,?_⟩
 ·show(live.map (·.1)).toArray.size=_;rw[bG];exact lp
 ·exact qP (List.pairwise_lt_range.sublist sub)
 ·have:=List.mem_range.mp (sub.subset hp);show p<=mask;omega
 ·show(live.map (·.2)).Perm _;rw[eo];exact h2
end Sx
namespace L2
open PySem PySem.Spec PyProof.Rows
def BT(w:World):Bool:=w.params.followText "set-order"
def MG(e:Int×Value):Prop:=∃i t,e=(hashInt i,Value.int i t)
def EZ(e:Int×Value):Int:=match e.2 with| .int i _=>i|_=>0
structure oH (w:World) (es:Array (Int×Value)) (t:SetTable) (ns:List Int) (N:Nat):Prop where
 good:Sx.ji t es.size (!BT w)
 elem:∀e∈es.toList,MG e
 keys:(es.toList.map EZ).Perm ns
 room:5*N<3*t.mask
 le:es.size<=N
 most:N<=2000
def iT(w:World)(h:Heap)(a:Addr)(ns:List Int)(N:Nat):Prop:=∃o es ep t,h.get? a=some o/\o.ExactSet/\o.data=.set es ep t/\oH w es t ns N
theorem oH.len{w:World}{es:Array (Int×Value)}{t:SetTable}{ns:List Int}{N:Nat}(d:oH w es t ns N):es.size=ns.length:=by
 have:=d.keys.length_eq;rw[ai,aJ]at this;exact this
theorem oH.fits{w:World}{es:Array (Int×Value)}{t:SetTable}{ns:List Int}{N:Nat}(d:oH w es t ns N):t.fits es.size=true:=d.good.fits (by have:=d.room;have:=d.le;omega)
theorem MH{prog:Program}{w:World}{l:List (Int×Value)}(h:∀e∈l,MG e):ElemsOf (intKind prog w) l:=fun e he=>by
 obtain⟨i,t,rfl⟩:=h e he;exact⟨⟨i,intKind_is _ _ _ _,rfl⟩,rfl⟩
theorem iT.at{w:World}{h h':Heap}{a:Addr}{ns:List Int}{N:Nat}(g:iT w h a ns N)(k:∀o,h.get? a=some o->h'.get? a=some o):iT w h' a ns N:=by
 obtain⟨o,es,ep,t,ho,r⟩:=g;exact⟨o,es,ep,t,k o ho,r⟩
section
variable{prog:Program}{w:World}{A:Around}{E:Value->Shared->Prop}{s:Shared}{a:Addr}{ns:List Int}{N:Nat}
theorem iT.typeIs(g:iT w s.heap a ns N):s.TypeIs (.ref a) "set":=by obtain⟨o,es,ep,t,ho,hx,_⟩:=g;exact⟨o,ho,hx.1⟩
theorem su{o:Obj}{es es':Array (Int×Value)}{ep:Nat}{t t':SetTable}{ms:List Int}{M:Nat}{Q:Unit->Shared->Prop}(ho:s.heap.get? a=some o)(hx:o.ExactSet)(hd:o.data=.set es ep t)(d:oH w es' t' ms M)
  (h:∀h',iT w h' a ms M->Heap.SameBut a s.heap h'->Q () {s with heap:=h'}):wpAny (model prog w) A (storeSet a es' t') Q E s:=by
 refine wpAny_storeSet_of ho hd (h _ ?_ (ee ..)) (by have:=d.le;have:=d.most;rw[jN];omega);have hg:=cU (Obj.putSet es' t') ho (by rw[putSet_of es' t' hd];rfl);rw[putSet_of es' t' hd]at hg;exact⟨_,es',ep+1,t',hg,hx,rfl,d⟩
theorem Pn{i:Int}{t0:Tok}{Q:Bool->Shared->Prop}(g:iT w s.heap a ns N)(hr:i∈ns\/ns.length<N)
  (h:∀b h',iT w h' a (if i∈ns then ns else i::ns) N->Heap.SameBut a s.heap h'->Q b {s with heap:=h'}):wpAny (model prog w) A (setAddHashed a (.int i t0) (hashInt i)) Q E s:=by
 obtain⟨o,es,ep,t,ho,hx,hd,D⟩:=id g;have hel:ElemsOf (intKind prog w) es.toList:=MH D.elem;have hb:es.size<scanBound:=by have:=D.le;have:=D.most;show es.size<4096;omega
 have mem:(∃e∈es.toList,(intKind prog w).is i e.2=true)↔i∈ns:=by
  rw[<- D.keys.mem_iff,List.mem_map];constructor
  ·rintro ⟨e,he,q⟩;obtain⟨j,u,rfl⟩:=D.elem e he;obtain⟨u',e'⟩:=A1 (k:=i) (v:=Value.int j u) q;injection e' with e1 _
   exact⟨_,he,e1⟩
  ·rintro ⟨e,he,q⟩;obtain⟨j,u,rfl⟩:=D.elem e he;have e1:j=i:=q;subst e1;exact⟨_,he,intKind_is _ _ _ _⟩
 unfold setAddHashed setAddHashedIn;refine dB (aa (dG ho hd D.fits ?_));dsimp only;rw[byScan_of (knd:=intKind prog w) (x:=.int i t0) rfl hb hel];simp only[↓reduceIte];unfold setAddByScan;refine aa (aa (ou (aa (wpAny_setScan_of (knd:=intKind prog w) (k:=i) (intKind_is _ _ _ _) ho hd D.fits hel ?_))));cases hf:List.findIdx? (fun e=>(intKind prog w).is i e.2) es.toList with
 |some j=>
  dsimp only;obtain⟨hj,hpj,_⟩:=List.findIdx?_eq_some_iff_getElem.mp hf;have hin:i∈ns:=mem.mp ⟨es.toList[j],List.getElem_mem hj,hpj⟩;have k:=h false s.heap (by rw[aB hin];exact g) (A2 a s.heap);exact ak (ak k)
 |none=>
  dsimp only;have UY:¬i∈ns:=fun q=>by
   obtain⟨e,he,hp⟩:=mem.mpr q;have:=List.findIdx?_eq_none_iff.mp hf e he;rw[hp]at this;cases this
  have hlt:ns.length<N:=hr.resolve_left UY;rw[<- D.len]at hlt;have hroom:=D.room;obtain⟨es',t',e,g',hm,perm⟩:=Sx.EY D.good (by omega) rfl (hashInt i) (.int i t0);have e':layNew t es ((intKind prog w).hash i) (.int i t0)=(es',t',false,false):=e;have sz:es'.size=es.size+1:=by rw[<- aJ,perm.length_eq,az,aJ]
  have D':oH w es' t' (i::ns) N:=by
   refine⟨by rw[sz];exact g',fun x hx'=>?_,?_,by rw[hm];exact hroom,by omega,D.most⟩
   ·rcases List.mem_cons.mp (perm.mem_iff.mp hx')with z|z
    ·exact⟨i,t0,z⟩
    ·exact D.elem x z
   ·exact(perm.map EZ).trans (D.keys.cons i)
  have nf:t'.tooFull=false:=by
   unfold SetTable.tooFull;rw[g'.fill,hm];exact aK (by omega)
  have hgw:∀(b:Bool) {s₁:Shared} {Q':Unit->Shared->Prop},Q' () s₁->wpAny (model prog w) A (match b with|true=>rule "set.scan.the-table-gave-way" |false=>pure ()) Q' E s₁:=
   fun b s₁ Q' hq=>by cases b<;>first|exact ak hq|exact ou hq
  rw[e];dsimp only;refine aa (hgw false ?_);rw[aB g'.plain];refine aa ?_;rw[hashByValue_scannable 8 (x:=.int i t0) rfl];refine ak ?_;show wpAny _ _ (storeSet a es' t' >>=fun _=>_) _ _ _;refine aa (su ho hx hd D' fun h' g2 sb=>?_);rw[ao (by show ¬(!false&&t'.tooFull)=true;rw[nf];simp)];have k:=h true h' (by rw[ao UY];exact g2) sb;exact ak (ak k)
theorem vg:∀(fuel size n:Nat),n<size*2 ^ fuel->(∃k,size=2 ^ k)->n<SetTable.sizeAbove.go n fuel size/\(∃k,SetTable.sizeAbove.go n fuel size=2 ^ k)/\(SetTable.sizeAbove.go n fuel size<=max size (2*n))
 |0,size,n,h,hk=>⟨by rw[Nat.pow_zero,Nat.mul_one]at h;exact h,hk,Nat.le_max_left ..⟩
 |fuel+1,size,n,h,hk=>by
  unfold SetTable.sizeAbove.go;by_cases hc:size<=n
  ·rw[aB hc];obtain⟨k,rfl⟩:=hk;have:=vg fuel (2 ^ k*2) n (by rw[Nat.mul_assoc, <- Nat.pow_succ'];exact h) ⟨k+1,by rw[Nat.pow_succ]⟩;exact⟨this.1,this.2.1,aP this.2.2 (by omega)⟩
  ·rw[ao hc];exact⟨by omega,hk,Nat.le_max_left ..⟩
theorem zK{n:Nat}(h:n<=8000):n<SetTable.sizeAbove n/\(∃k,SetTable.sizeAbove n=2 ^ k)/\SetTable.sizeAbove n<=16008:=by
 have:=vg 64 8 n (cM h (by decide)) ⟨3,rfl⟩;exact⟨this.1,this.2.1,aP this.2.2 (by omega)⟩
theorem oH.relaid{es:Array (Int×Value)}{t0 t:SetTable}{order:Array Nat}{M:Nat}(D:oH w es t0 ns N)(g:Sx.ji t es.size (!BT w))(perm:order.toList.Perm (List.range es.size))(hr:5*M<3*t.mask)(hl:es.size<=M)(hm:M<=2000):
  (order.filterMap (es[·]?)).size=es.size/\oH w (order.filterMap (es[·]?)) t ns M:=by
 have pe:(order.filterMap (es[·]?)).toList.Perm es.toList:=by
  rw[Array.toList_filterMap];exact(perm.filterMap _).trans (by rw[filterMap_getElem?_range])
 have sz:(order.filterMap (es[·]?)).size=es.size:=by rw[<- aJ,pe.length_eq,aJ]
 exact⟨sz,⟨by rw[sz];exact g,fun e he=>D.elem e (pe.mem_iff.mp he),(pe.map EZ).trans D.keys,hr,by rw[sz];exact hl,hm⟩⟩
theorem E1{more:Nat}{Q:Unit->Shared->Prop}(g:iT w s.heap a ns N)(hm:ns.length+more<=2000)(h:∀h',iT w h' a ns (ns.length+more)->Heap.SameBut a s.heap h'->Q () {s with heap:=h'}):
  wpAny (model prog w) A (setRoomFor a more) Q E s:=by
 obtain⟨o,es,ep,t,ho,hx,hd,D⟩:=id g;have len:=D.len;unfold setRoomFor;refine aa (dG ho hd D.fits ?_);unfold SetTable.roomFor;rw[D.good.fill,D.good.size];by_cases hc:(es.size+more)*5 >= t.mask*3
 ·rw[aB hc];dsimp only;obtain⟨s1,⟨K,s2⟩,s3⟩:=zK (n:=(es.size+more)*2) (by omega);have hK:SetTable.sizeAbove ((es.size+more)*2)-1+1=2 ^ K:=by omega
  have hpos:0<es.size+more:=by have:=D.good.pow;have:=D.room;omega
  obtain⟨t',order,e,g',hm',perm⟩:=Sx.B6 hK (hs:=es.map (·.1)) (by rw[JP];omega) t.finger (t.movedTo (SetTable.sizeAbove ((es.size+more)*2)-1)) (!BT w);rw[JP]at g' perm;obtain⟨sz,D'⟩:=D.relaid (M:=ns.length+more) g' perm (by rw[hm'];omega) (by omega) hm;unfold setRelay;refine aa (dG ho hd D.fits ?_);dsimp only;rw[ao (by rw[jN];omega)];have el:t.relaid (es.map (·.1)) ((es.size+more)*2)=some (t',order):=by
   unfold SetTable.relaid;rw[D.good.led,D.good.plain];exact e
  rw[el];refine aa (jM (a:=(order.filterMap (es[·]?),t')) ?_ ?_)
  ·show(if((order.filterMap (es[·]?)).size != es.size)=true then _ else _)=_;rw[ao (by rw[sz];simp)]
  ·exact su ho hx hd D' h
 ·rw[ao hc];refine ak (h s.heap ⟨o,es,ep,t,ho,hx,hd,⟨D.good,D.elem,D.keys,by omega,by omega,hm⟩⟩ (A2 _ _))
end
theorem iT.perm{w:World}{h:Heap}{a:Addr}{ns ms:List Int}{N:Nat}(g:iT w h a ns N)(p:ns.Perm ms):iT w h a ms N:=by
 obtain⟨o,es,ep,t,h1,h2,h3,D⟩:=g;exact⟨o,es,ep,t,h1,h2,h3,⟨D.good,D.elem,D.keys.trans p,D.room,D.le,D.most⟩⟩
theorem mF{α:Type} :∀(l:List α) (i:Nat) (h:i<l.length),(l[i]::l.eraseIdx i).Perm l
 |x::l,0,h=>.refl _
 |x::l,i+1,h=>by
  have hi:i<l.length:=yQ h;have ih:=mF l i hi;show(l[i]::x::l.eraseIdx i).Perm (x::l);exact(List.Perm.swap x l[i] _).trans (ih.cons x)
theorem IM{α:Type}(next:Nat->Nat):∀(fuel k:Nat) (left:List α) (out:Array α),left.length<=fuel->(pickOrder.go next fuel k left out).toList.Perm (out.toList++left)
 |0,k,left,out,h=>by
  have e:left=[]:=cZ (by omega);subst e;rw[bq];exact .refl _
 |fuel+1,k,left,out,h=>by
  unfold pickOrder.go;cases q:left[next k%left.length]? with
  |none=>
   have e:left=[]:=by
    rcases Nat.eq_zero_or_pos left.length with z|z
    ·exact cZ z
    ·rw[aM (yP _ z)]at q;cases q
   subst e;simp
  |some x=>
   obtain⟨hl,he⟩:=List.getElem?_eq_some_iff.mp q;refine(IM next fuel (k+1) _ _ (by rw[List.length_eraseIdx_of_lt hl];omega)).trans ?_;rw[Array.toList_push,bw];refine List.Perm.append_left _ ?_;rw[<- he];exact mF left _ hl
theorem Kp{α:Type}(next:Nat->Nat)(xs:Array α):(pickOrder next xs).toList.Perm xs.toList:=by
 have:=IM next xs.size 0 xs.toList #[] (by rw[aJ];exact aq _)
 unfold pickOrder;simpa using this
def iN(w:World)(a:Addr)(ep:Nat)(es:Array (Int×Value)):Array (Int×Value):=if BT w=true then pickOrder (w.params.setOrder a ep) es else es
theorem vh(w:World)(a:Addr)(ep:Nat)(es:Array (Int×Value)):(iN w a ep es).toList.Perm es.toList:=by
 unfold iN;split
 ·exact Kp _ _
 ·exact .refl _
section
variable{prog:Program}{w:World}{A:Around}{E:Value->Shared->Prop}{s:Shared}{a:Addr}{ns:List Int}{N:Nat}
theorem E2{o:Obj}{es:Array (Int×Value)}{ep:Nat}{t:SetTable}{Q:Array (Int×Value)->Shared->Prop}(ho:s.heap.get? a=some o)(hd:o.data=.set es ep t)(D:oH w es t ns N)(h:Q (iN w a ep es) s):
  wpAny (model prog w) A (setWalk a) Q E s:=by
 unfold setWalk;refine aa (dG ho hd D.fits ?_);dsimp only;unfold setsByText;refine aa (aa (jt (ak ?_)));show wpAny _ _ (if BT w=true then _ else _) _ _ _;unfold iN at h;by_cases hb:BT w=true
 ·rw[aB hb]at h ⊢;exact aa (jt (ak h))
 ·rw[ao hb]at h ⊢;have hb':BT w=false:=by simpa using hb
  have e1:t.plain=true:=D.good.plain;have e2:t.led=true:=by rw[D.good.led,hb'];rfl
  show wpAny _ _ (if(!t.plain&&decide (es.size > 1))=true then _ else _) _ _ _;rw[e1,ao (by simp)];refine aa ?_;show wpAny _ _ (if(!t.led&&decide (es.size > 1))=true then _ else _) _ _ _;rw[e2,ao (by simp)];exact ak (ak h)
theorem zL{o:Obj}{es:Array (Int×Value)}{ep:Nat}{t:SetTable}{Q:Array (Int×Value)->Shared->Prop}{others:List Addr}{f:Option Addr}(ho:s.heap.get? a=some o)(hd:o.data=.set es ep t)(D:oH w es t ns N)(h:Q (iN w a ep es) s):
  wpAny (model prog w) A (setWalkUnseen a others f) Q E s:=by
 unfold setWalkUnseen;refine aa (dG ho hd D.fits ?_);dsimp only;unfold setsByText;refine aa (aa (jt (ak ?_)));have e:((⟨(model prog w).prog,(model prog w).w.params⟩:Setting).params.followText "set-order"||(t.led&&t.plain)||decide (es.size<=1))=true:=by
  show(BT w||(t.led&&t.plain)||decide (es.size<=1))=true;rw[D.good.plain,D.good.led];cases BT w<;>rfl
 rw[aB e];exact E2 ho hd D h
def qQ(w:World)(h0:Heap)(a:Addr)(ns:List Int)(M:Nat)(done:List Int)(h':Heap):Prop:=
 ∃ms,iT w h' a ms M/\Heap.SameBut a h0 h'/\(∀i,i∈ms↔i∈ns\/i∈done)/\(ns.Nodup->ms.Nodup)/\ms.length<=ns.length+done.length
theorem qQ.start{h0:Heap}{M:Nat}(g:iT w h0 a ns M):qQ w h0 a ns M [] h0:=⟨ns,g,A2 _ _,fun i=>by simp,id,by simp⟩
theorem qQ.add{h0 h':Heap}{M:Nat}{done:List Int}{i:Int}{t0:Tok}{Q:Bool->Shared->Prop}(G:qQ w h0 a ns M done h')(es:s.heap=h')(hm:ns.length+done.length<M)
  (h:∀b h2,qQ w h0 a ns M (done++[i]) h2->Heap.SameBut a h' h2->Q b {s with heap:=h2}):wpAny (model prog w) A (setAddHashed a (.int i t0) (hashInt i)) Q E s:=by
 obtain⟨ms,g,sb,mem,nd,ln⟩:=G;subst es;refine Pn g (.inr (by omega)) fun b h2 g2 Gw=>h b h2 ⟨_,g2,sb.trans Gw,fun j=>?_,fun q=>?_,?_⟩ Gw
 ·by_cases hi:i∈ms
  ·rw[aB hi,mem,List.mem_append,wu];constructor
   ·rintro (z|z)
    ·exact .inl z
    ·exact .inr (.inl z)
   ·rintro (z|z|z)
    ·exact .inl z
    ·exact .inr z
    ·rw[z];exact(mem i).mp hi
  ·rw[ao hi,iL,mem,List.mem_append,wu];constructor
   ·rintro (z|z|z)
    ·exact .inr (.inr z)
    ·exact .inl z
    ·exact .inr (.inl z)
   ·rintro (z|z|z)
    ·exact .inr (.inl z)
    ·exact .inr (.inr z)
    ·exact .inl z
 ·by_cases hi:i∈ms
  ·rw[aB hi];exact nd q
  ·rw[ao hi];exact List.nodup_cons.mpr ⟨hi,nd q⟩
 ·rw[au,List.length_singleton];split
  ·omega
  ·rw[az];omega
theorem qQ.fin{h0 h':Heap}{M:Nat}{done:List Int}(G:qQ w h0 a ns M done h')(nd:ns.Nodup){ms:List Int}(nd2:ms.Nodup)(mem:∀i,i∈ms↔i∈ns\/i∈done):iT w h' a ms M/\Heap.SameBut a h0 h':=by
 obtain⟨ks,g,sb,YZ,nd3,_⟩:=G;refine⟨g.perm ?_,sb⟩;exact(dP (nd3 nd) nd2).mpr fun i=>by rw[YZ,mem]
theorem D8:isSubtype (.type "dict") (.type "set")=pure false:=by rw[lP];kernel_rfl
theorem yk:isSubtype (.type "dict") (.type "frozenset")=pure false:=by rw[lP];kernel_rfl
def IP(h:Heap)(d:Addr)(o:Obj)(es:Array DictEntry)(ep:Nat)(ks:List Int):Prop:=
 h.get? d=some o/\o.ExactDict/\o.data=.dict es ep/\es.size=ks.length/\∀(j:Nat) (k:Int),ks[j]? =some k->∃t v,es[j]? =some ⟨hashInt k,.int k t,v⟩
theorem MI{id:String}{d:Addr}{o:Obj}{es:Array DictEntry}{ep:Nat}{ks:List Int}{Q:Unit->Shared->Prop}(g:iT w s.heap a [] N)(hd:IP s.heap d o es ep ks)(hS:(d==sysModules)=false)(hne:d≠a)(nd:ks.Nodup)(hk:ks.length<=1000)
  (h:∀h',iT w h' a ks ks.length->Heap.SameBut a s.heap h'->Q () {s with heap:=h'}):wpAny (model prog w) A (Builtin.Frozenset.updateFrom id a (.ref d)) Q E s:=by
 obtain⟨ho,hx,hdt,hsz,ent⟩:=hd;have ty:s.TypeIs (.ref d) "dict":=⟨o,ho,hx.1⟩
 unfold Builtin.Frozenset.updateFrom Builtin.Frozenset.isAnySet;refine aa ?_;have h1:wpAny (model prog w) A (isInstance (.ref d) (.type "set") <||> isInstance (.ref d) (.type "frozenset")) (fun b s'=>b=false/\s'=s) E s:=by
  show wpAny _ _ (isInstance (.ref d) (.type "set") >>=_) _ _ _;refine aa (dZ ty D8 ?_);exact dZ ty yk ⟨rfl,rfl⟩
 refine dI h1 fun b s' ⟨e1,e2⟩=>?_;rw[e1,e2]
 clear e1 e2 h1
 simp only[i8,nh];refine aa (wpAny_typeOf ty ?_);rw[aB (by decide)];refine aa (ou ?_);show wpAny _ _ (pure d >>=_) _ _ _;refine aa (ak ?_);rw[ao (by rw[hS];exact aU)];refine aa (iK ho hdt ?_);refine aa (dH ho hdt ?_);refine aa (E1 g (more:=es.size) (by rw[hsz,dj];omega) fun h1 g1 SM=>?_);rw[dj,kG]at g1;have V0:h1.get? d=some o:=(SM.2 d hne).trans ho;refine aa (dH (s:={s with heap:=h1}) V0 hdt ?_);refine aa ?_;rw[Std.Legacy.Range.forIn_eq_forIn_range'];simp only[Std.Legacy.Range.size,Nat.sub_zero,Nat.add_sub_cancel,Nat.div_one];refine wpAny_forIn_list _
  (fun rest _ s'=>∃h' i,s'= {s with heap:=h'} /\rest=List.range' i (es.size-i)/\i<=es.size/\qQ w h1 a [] es.size (ks.take i) h')
  _ ?_ ?_ _ _ ⟨h1,0,rfl,by simp,bu _,qQ.start g1⟩
 ·rintro x rest b s' ⟨h',i,rfl,hr,hi,G⟩;have hlt:i<es.size:=by
   rcases sV i es.size with z|z
   ·exact z
   ·rw[Nat.sub_eq_zero_of_le z]at hr;simp at hr
  obtain⟨rfl,hrest⟩:x=i/\rest=List.range' (i+1) (es.size-(i+1)):=by
   rw[show es.size-i=(es.size-(i+1))+1 by omega,List.range'_succ]at hr;injection hr with z1 z2
   exact⟨z1,z2⟩
  have hks:ks[x]? =some ks[x]:=aM (by omega);obtain⟨u,v,een⟩:=ent x _ hks;have ho':h'.get? d=some o:=by
   obtain⟨_,_,sb,_⟩:=G;exact(sb.2 d hne).trans V0
  refine aa (dH (s:={s with heap:=h'}) ho' hdt ?_);rw[een];dsimp only;refine aa (dB (G.add rfl (by rw[dj,b4];omega) fun b2 h2 G2 Gw=>?_));have ho2:h2.get? d=some o:=(Gw.2 d hne).trans ho';refine aa (iK (s:={s with heap:=h2}) ho2 hdt ?_);rw[ao (by simp)];have et:ks.take (x+1)=ks.take x++[ks[x]]:=by rw[kU,hks];rfl
  exact ak ⟨h2,x+1,rfl,hrest,hlt,by rw[et];exact G2⟩
 ·rintro b s' ⟨h',i,rfl,hr,hi,G⟩;have hin:i=es.size:=by
   rcases sV i es.size with z|z
   ·rw[show es.size-i=(es.size-(i+1))+1 by omega,List.range'_succ]at hr;cases hr
   ·omega
  rw[hin,hsz,bL]at G;obtain⟨g2,Gw⟩:=G.fin wo nd (fun i=>by simp);exact ak (h h' g2 (SM.trans Gw))
theorem B7{b:Addr}{ms us:List Int}{M:Nat}{each:Sem Unit}{Q:Unit->Shared->Prop}(g:iT w s.heap a ns N)(gb:iT w s.heap b ms M)(ne:a≠b)(hl:ns.length+ms.length<=2000)(nd:ns.Nodup)(Y0:ms.Nodup)(V1:us.Nodup)(mem:∀i,i∈us↔i∈ns\/i∈ms)
  (V2:∀(s1:Shared) (Q1:Unit->Shared->Prop),(∀o,s.heap.get? b=some o->s1.heap.get? b=some o)->Q1 () s1->wpAny (model prog w) A each Q1 E s1)
  (h:∀h' M',iT w h' a us M'->Heap.SameBut a s.heap h'->Q () {s with heap:=h'}):wpAny (model prog w) A (setMerge a b each) Q E s:=by
 obtain⟨o,es,ep,t,ho,hx,hd,D⟩:=id gb;unfold setMerge;rw[ao (by simpa using ne)];refine aa (dG ho hd D.fits ?_);dsimp only;have SN:=D.len;by_cases SO:es.isEmpty=true
 ·rw[aB SO];have e0:ms=[]:=by
   have z:es.size=0:=by rw[Array.isEmpty_iff.mp SO];rfl
   exact cZ (by omega)
  refine ak (h s.heap N (g.perm ?_) (A2 _ _));refine(dP nd V1).mpr fun i=>?_;rw[mem,e0];simp
 ·rw[ao SO];refine aa (E1 g (more:=es.size) (by rw[SN];exact hl) fun h1 g1 SM=>?_);have V0:h1.get? b=some o:=(SM.2 b (bP ne)).trans ho;obtain⟨oa,ea,epa,ta,hoa,hxa,hda,Da⟩:=id g1;refine aa (dG (s:={s with heap:=h1}) hoa hda Da.fits ?_);dsimp only;have acd:=Da.len;have V3:ns=[]->ms.Perm us:=fun z=>(dP Y0 V1).mpr fun i=>by rw[mem,z];simp
  unfold SetTable.road;rw[Da.good.fill];by_cases hz:ea.size=0
  ·have e0:ns=[]:=cZ (by omega);have pm:=V3 e0;rw[ao (by rw[hz];simp)];have rm:=Da.room;rw[e0,dj,kG]at rm;by_cases Y3:(ta.mask==t.mask&&t.dummies.isEmpty)=true
   ·rw[aB Y3];have ace:ta.mask=t.mask:=jo (bB .. ▸ Y3).1;dsimp only;have D2:oH w es {t with finger:=ta.finger,led:=ta.led&&t.led,moves:=ta.moves,plain:=ta.plain&&t.plain} us M:=by
     refine⟨⟨D.good.size,D.good.up,D.good.le,D.good.VZ,D.good.pow,?_,?_⟩,D.elem,D.keys.trans pm,D.room,D.le,D.most⟩
     ·show(ta.plain&&t.plain)=true;rw[Da.good.plain,D.good.plain];rfl
     ·show(ta.led&&t.led)=_;rw[Da.good.led,D.good.led,Bool.and_self]
    exact su (s:={s with heap:=h1}) hoa hxa hda D2 fun h2 g2 Gw=>h h2 M g2 (SM.trans Gw)
   ·rw[ao Y3];dsimp only;obtain⟨K,hK⟩:=Da.good.pow;obtain⟨t',order,e,g',hm',perm⟩:=Sx.B6 hK (hs:=es.map (·.1)) (by rw[JP];omega) ta.finger ta.moves (!BT w);rw[JP]at g' perm;obtain⟨sz,D'⟩:=D.relaid (M:=es.size) g' perm (by rw[hm'];exact rm) (aq _) (by omega);have el:SetTable.laid ta.mask ta.finger ta.moves (ta.led&&t.led) (ta.plain&&t.plain) (es.map (·.1))=some (t',order):=by
     rw[Da.good.led,D.good.led,Da.good.plain,D.good.plain,Bool.and_self,Bool.and_self];exact e
    rw[el];refine aa (jM (a:=(order.filterMap (es[·]?),t')) ?_ ?_)
    ·show(if((order.filterMap (es[·]?)).size != es.size)=true then _ else _)=_;rw[ao (by rw[sz];simp)]
    ·refine su (s:={s with heap:=h1}) hoa hxa hda D' fun h2 g2 Gw=>h h2 _ (g2.perm pm) (SM.trans Gw)
  ·rw[aB (by simpa using hz)];dsimp only;refine aa (zL (s:={s with heap:=h1}) V0 hd D ?_);have pe:=vh w b ep es;generalize hos:iN w b ep es=os at pe;have oel:∀e∈os.toList,MG e:=fun e he=>D.elem e (pe.mem_iff.mp he);have V4:(os.toList.map EZ).Perm ms:=(pe.map EZ).trans D.keys;refine aa ?_;rw[<- Array.forIn_toList];refine wpAny_forIn_list _
    (fun rest _ s'=>∃h' done,s'= {s with heap:=h'} /\os.toList=done++rest/\qQ w h1 a ns (ns.length+es.size) (done.map EZ) h')
    _ ?_ ?_ _ _ ⟨h1,[],rfl,rfl,qQ.start g1⟩
   ·rintro x rest _ s' ⟨h',done,rfl,hr,G⟩;obtain⟨i,u,rfl⟩:=oel x (by rw[hr];simp);have hlen:done.length+(rest.length+1)=es.size:=by
     have:=congrArg List.length hr;rw[au,az,pe.length_eq,aJ]at this;exact this.symm
    have hob:h'.get? b=some o:=by
     obtain⟨_,_,sb,_⟩:=G;exact(sb.2 b (bP ne)).trans V0
    refine aa (dB (G.add rfl (by rw[ai];omega) fun b2 h2 G2 Gw=>?_));have ho2:h2.get? b=some o:=(Gw.2 b (bP ne)).trans hob;refine aa (V2 {s with heap:=h2} _ (fun o' q=>by rw[ho]at q;cases q;exact ho2) ?_);refine aa (dG (s:={s with heap:=h2}) ho2 hd D.fits ?_);dsimp only;rw[ao (by simp)];refine ak ⟨h2,done++[(hashInt i,Value.int i u)],rfl,by rw[hr];simp,?_⟩;rw[aX];exact G2
   ·rintro _ s' ⟨h',done,rfl,hr,G⟩;rw[bq]at hr;rw[<- hr]at G;obtain⟨g2,Gw⟩:=G.fin nd V1 (fun i=>by rw[mem,V4.mem_iff]);exact ak (h h' _ g2 (SM.trans Gw))
end
theorem Hh(w:World):oH w #[] (.fresh 0 0 (!BT w)) [] 0:=
 ⟨⟨rfl,fun i j h1 h2=>absurd h2 (lY _),fun p hp=>(by cases hp),rfl,⟨3,rfl⟩,rfl,rfl⟩,fun e he=>(by cases he),.refl _,(by show 5*0<3*7;decide),aq _,by decide⟩
abbrev iZ(w:World):Obj:={cls:=.type "set",dict:=none,data:=.set #[] 0 (.fresh 0 0 (!BT w))}
section
variable{prog:Program}{w:World}{A:Around}{E:Value->Shared->Prop}{s:Shared}{a:Addr}{ns:List Int}{N:Nat}
theorem V5(h:Heap):iT w (h.push (iZ w)) h.objs.size [] 0:=⟨_, #[],0,_,aE _ rfl,⟨rfl,rfl,rfl⟩,rfl,Hh w⟩
theorem MJ{Q:Value->Shared->Prop}(h:Q (.ref s.heap.objs.size) {s with heap:=s.heap.push (iZ w)}):wpAny (model prog w) A (newSet (.type "set")) Q E s:=by
 unfold newSet setsByText;refine aa (aa (jt (ak ?_)));dsimp only;simp only[newObj];exact aa (wpAny_alloc (ak h))
theorem Kq(x:Value){Q':Value->Shared->Prop}(h:Q' (.ref s.heap.objs.size) {s with heap:=s.heap.push (iZ w)}):
  codeAny (model prog w) A (.call (.builtin "set.__new__") ⟨[.type "set",x],[]⟩) (wants Q' E) s:=by
 refine uM ?_;show wpAny _ A.in1 (do checkBuiltinCall "set.__new__" ⟨[.type "set",x],[]⟩;again (.builtin "set.__new__" ⟨[.type "set",x],[]⟩)) _ _ s;refine aa (jM (F.newCall_set_1 x) (ak ⟨nQ F.plain_set_new _,jV F.entry_set_new ?_⟩));rw[lR F.plain_set_new _];unfold Builtin.«set.__new__» Builtin.Frozenset.newClass;have hsub:=sub_set_self;obtain⟨hp,g,d,tk,os⟩:=s;dsimp only
 wp_walk
 refine jt (ak ?_);dsimp only;simp only[newObj];exact aa (wpAny_alloc (ak (ak h)))
theorem Kr{d:Addr}{o:Obj}{es:Array DictEntry}{ep:Nat}{ks:List Int}{Q:Value->Shared->Prop}(hd:IP s.heap d o es ep ks)(hS:(d==sysModules)=false)(nd:ks.Nodup)(hk:ks.length<=1000)
  (h:∀h',iT w h' s.heap.objs.size ks ks.length->(∀b u,s.heap.get? b=some u->h'.get? b=some u)->Q (.ref s.heap.objs.size) {s with heap:=h'}):
  wpAny (model prog w) A (call (.type "set") [.ref d]) Q E s:=by
 obtain⟨c,tl,acg⟩:=F.called_set.mro;have hmade:=F.called_set.made;have hsub:=F.called_set.sub;refine ow (uM ?_);show wpAny _ _ (callAny (.type "set") _) _ _ _;refine ak ⟨jS _ (by decide +kernel),jV F.entry_type_call ?_⟩;rw[Around.under_plain (weight_type_call_type "set" [.ref d] []) rfl];have h1:=F.called_set.notType;have h2:=F.called_set.canCreate;have hct:=F.typeCall_set_1 (.ref d)
 repeat (any_goals (first|assumption|wp_step))
 refine jQ (Kq (.ref d) (E:=E) (Q':=fun x s₁=>x=.ref s.heap.objs.size/\s₁= {s with heap:=s.heap.push (iZ w)}) ⟨rfl,rfl⟩) fun r s₁ hr=>?_;cases r with
 |error e=>exact hr
 |ok fl=>
  cases fl with
  |ret x=>
   obtain⟨rfl,rfl⟩:=hr;have hT:Shared.TypeIs {s with heap:=s.heap.push (iZ w)} (.ref s.heap.objs.size) "set":=⟨_,aE _ rfl,rfl⟩
   have hli:=F.called_set.init.lookup;have hbi:=F.called_set.init.bind (.ref s.heap.objs.size)
   repeat (any_goals (first|assumption|wp_step))
   refine jQ (f6 (R:=wants (fun r s₂=>r=.none/\∃h',s₂= {s with heap:=h'} /\iT w h' s.heap.objs.size ks ks.length/\∀b u,s.heap.get? b=some u->h'.get? b=some u) E) F.called_set.init.plain F.entry_set_init (check_set_init_1 hT ?_)) fun q s₂ hq=>?_
   ·have hlt:d<s.heap.objs.size:=aF hd.1;have hd':IP (s.heap.push (iZ w)) d o es ep ks:=⟨af _ hd.1,hd.2⟩
    have fin:wpAny (model prog w) A.in1.in1 (Builtin.Frozenset.updateFrom "set.__init__" s.heap.objs.size (.ref d)) (fun _ s₂=>∃h',s₂= {s with heap:=h'} /\iT w h' s.heap.objs.size ks ks.length/\∀b u,s.heap.get? b=some u->h'.get? b=some u) E {s with heap:=s.heap.push (iZ w)}:=
     MI (V5 s.heap) hd' hS (aT hlt) nd hk fun h' g' sb=>⟨h',rfl,g',fun b u e=>(sb.2 b (aT (aF e))).trans (af _ e)⟩
    have used:wpAny (model prog w) A.in1.in1 (setUsed s.heap.objs.size) (fun b s₂=>b=false/\s₂= {s with heap:=s.heap.push (iZ w)}) E {s with heap:=s.heap.push (iZ w)}:=by
     unfold setUsed;exact aa (dG (s:={s with heap:=s.heap.push (iZ w)}) (aE _ rfl) rfl rfl (ak ⟨rfl,rfl⟩))
    unfold Builtin.«set.__init__» noKeywords;generalize hUF:Builtin.Frozenset.updateFrom=UF at fin;generalize hSU:setUsed=SU at used
    wp_walk
    refine dI used fun b s₂ ⟨e1,e2⟩=>?_;rw[e1,e2];show wpAny _ _ (UF "set.__init__" s.heap.objs.size (.ref d) >>=fun _=>ret Value.none) _ _ _;refine aa (dI fin fun _ s₃ k=>?_);exact ak ⟨rfl,k⟩
   ·cases q with
    |error e=>exact hq
    |ok f2=>
     cases f2 with
     |ret r=>
      obtain⟨rfl,h',rfl,g',hk'⟩:=hq
      repeat (any_goals (first|assumption|wp_step))
      exact h _ g' hk'
     |_=>exact hq.elim
  |_=>exact hr.elim
end
theorem C7:entryFor table "set.__or__"=some Builtin.«frozenset.__or__» :=entryFor_alias (id':="frozenset.__or__") (by kernel_rfl) rfl (by decide +kernel) (by kernel_rfl)
theorem zM:entryFor table "set.__iter__"=some Builtin.«frozenset.__iter__» :=entryFor_alias (id':="frozenset.__iter__") (by kernel_rfl) rfl (by decide +kernel) (by kernel_rfl)
theorem gn:Slot "set_iterator" "__next__" "set_iterator.__next__":=
 .of (owner:="set_iterator") (n:="__next__") (by rw[oq,gZ];kernel_rfl) (by decide +kernel) (by decide +kernel) (by decide +kernel)
  (by first|exact .inl (by decide +kernel)|exact .inr (by decide +kernel)) (by rw[lP];kernel_rfl)
theorem p7:entryFor table "set_iterator.__next__"=some Builtin.«set_iterator.__next__» :=entryFor_of_tree (by kernel_rfl)
theorem qR(a:Value):argsOk "set_iterator.__next__" ⟨[a],[]⟩:=by unfold argsOk;kernel_rfl
theorem qS:Slot "set_iterator" "__iter__" "set_iterator.__iter__":=
 .of (owner:="set_iterator") (n:="__iter__") (by rw[oq,gZ];kernel_rfl) (by decide +kernel) (by decide +kernel) (by decide +kernel)
  (by first|exact .inl (by decide +kernel)|exact .inr (by decide +kernel)) (by rw[lP];kernel_rfl)
theorem yl:entryFor table "set_iterator.__iter__"=some Builtin.«dict_keyiterator.__iter__» :=
 entryFor_alias (id':="dict_keyiterator.__iter__") (by kernel_rfl) (by first|rfl|decide +kernel) (by decide +kernel) (by kernel_rfl)
theorem zN(a:Value):argsOk "set_iterator.__iter__" ⟨[a],[]⟩:=by unfold argsOk;kernel_rfl
theorem rX:isSubtype (.type "set") (.type "set")=pure true:=by rw[lP];kernel_rfl
section
variable{prog:Program}{w:World}{A:Around}{E:Value->Shared->Prop}{s:Shared}{a b:Addr}{ns ms us:List Int}{N M:Nat}
theorem SQ{Q:Value->Shared->Prop}(g:iT w s.heap a ns N)(gb:iT w s.heap b ms M)(ne:a≠b)(hl:ns.length+ms.length<=2000)(nd:ns.Nodup)(Y0:ms.Nodup)(V1:us.Nodup)(mem:∀i,i∈us↔i∈ns\/i∈ms)
  (h:∀h' M',iT w h' s.heap.objs.size us M'->(∀c u,s.heap.get? c=some u->h'.get? c=some u)->Q (.ref s.heap.objs.size) {s with heap:=h'}):
  wpAny (model prog w) A (binaryOp .BitOr (.ref a) (.ref b)) Q E s:=by
 refine wpAny_binaryOp_same (T:="set") (id:="set.__or__") g.typeIs gb.typeIs PySem.F.fills_set_or PySem.F.slot_set_or ?_;refine bU PySem.F.slot_set_or g.typeIs C7 ?_ (PySem.F.args_set_or_2 _ _);have la:a<s.heap.objs.size:=by obtain⟨o,_,_,_,ho,_⟩:=g;exact aF ho
 have lb:b<s.heap.objs.size:=by obtain⟨o,_,_,_,ho,_⟩:=gb;exact aF ho
 have any:∀(x:Addr),s.TypeIs (.ref x) "set"->∀(Q:Bool->Shared->Prop),Q true s->wpAny (model prog w) A.in1 (Builtin.Frozenset.isAnySet (.ref x)) Q E s:=fun x tx Q q=>by
  unfold Builtin.Frozenset.isAnySet;show wpAny _ _ (isInstance (.ref x) (.type "set") >>=_) _ _ _;exact aa (dZ tx rX (ak q))
 have k0:∀c u,s.heap.get? c=some u->(s.heap.push (iZ w)).get? c=some u:=fun c u e=>af _ e;have cp:wpAny (model prog w) A.in1 (Builtin.Frozenset.copyOf a) (fun v s'=>v=.ref s.heap.objs.size/\∃h' M',s'= {s with heap:=h'} /\iT w h' s.heap.objs.size ns M'/\∀c u,s.heap.get? c=some u->h'.get? c=some u) E s:=by
  unfold Builtin.Frozenset.copyOf;refine aa ?_;unfold Builtin.Frozenset.baseOf;refine aa (dZ g.typeIs rX (ak ?_));refine aa (MJ ?_);show wpAny _ _ (pure s.heap.objs.size >>=_) _ _ _;refine aa (ak (aa ?_));refine B7 (s:={s with heap:=s.heap.push (iZ w)}) (V5 s.heap) (g.at fun o e=>k0 _ _ e) (dz la) (by rw[dj];omega) wo nd nd (fun i=>by simp) (fun s1 Q1 _ q=>ak q) fun h' M' g' sb=>?_;exact ak ⟨rfl,h',M',rfl,g',fun c u e=>(sb.2 c (aT (aF e))).trans (k0 c u e)⟩
 show wpAny _ _ ((Builtin.Frozenset.isAnySet (.ref a) <&&> Builtin.Frozenset.isAnySet (.ref b)) >>=_) _ _ _;refine aa ?_;show wpAny _ _ (Builtin.Frozenset.isAnySet (.ref a) >>=_) _ _ _;refine aa (any a g.typeIs _ ?_);refine any b gb.typeIs _ ?_;show wpAny _ _ (pure a >>=_) _ _ _;refine aa (ak (aa ?_));show wpAny _ _ (Builtin.Frozenset.copyOf a >>=fun result=>_) _ _ _;refine aa (dI cp fun v s1 eT=>?_);obtain⟨ev,h1,M1,es1,g1,k1⟩:=eT;rw[ev,es1];have nb:(Value.ref b != Value.ref a)=true:=by
  rw[bne_iff_ne];intro q;injection q with q
  exact ne q.symm
 show wpAny _ _ (if(Value.ref b != Value.ref a)=true then _ else _) _ _ _;rw[aB nb];show wpAny _ _ (pure s.heap.objs.size >>=_) _ _ _;refine aa (ak (aa (dB ?_)));have Y4:iT w h1 b ms M:=gb.at fun o e=>k1 b o e;have tb:Shared.TypeIs {s with heap:=h1} (.ref b) "set":=Y4.typeIs (s:={s with heap:=h1});unfold Builtin.Frozenset.updateFrom Builtin.Frozenset.isAnySet;refine aa ?_;show wpAny _ _ (isInstance (.ref b) (.type "set") >>=_) _ _ _;refine aa (dZ tb rX (ak ?_));show wpAny _ _ (pure b >>=fun x=>Builtin.Frozenset.merge _ _ x) _ _ _;refine aa (ak ?_);unfold Builtin.Frozenset.merge;obtain⟨ob,eb,epb,tb',hob,hxb,hdb,Db⟩:=id Y4;refine aa (wpAny_setEpoch_of (s:={s with heap:=h1}) hob hdb Db.fits ?_);refine B7 (s:={s with heap:=h1}) g1 Y4 (dz lb) hl nd Y0 V1 mem (fun s2 Q2 kb q=>?_) fun h2 M2 g2 Gw=>?_
 ·unfold Builtin.Frozenset.unchanged;refine aa (wpAny_setEpoch_of (kb ob hob) hdb Db.fits ?_);rw[ao (by simp)];exact ak q
 ·have fin:=h h2 M2 g2 fun c u e=>(Gw.2 c (aT (aF e))).trans (k1 c u e);exact ak (ak ⟨_,rfl,(fun z=>by cases z),fin⟩)
end
abbrev jZ(h:Heap)(I a:Addr)(slot i n ep:Nat):Prop:=h.get? I=some {cls:=.type "set_iterator",data:=.fields #[.int slot 0,.int i 0,.ref a,.int n 0,.int ep 0]}
section
variable{prog:Program}{w:World}{A:Around}{E:Value->Shared->Prop}{s:Shared}{a:Addr}{ns:List Int}{N:Nat}{o:Obj}{es:Array (Int×Value)}{ep:Nat}{t:SetTable}
theorem E3{slot i:Nat}{Q:Option (Value×Nat)->Shared->Prop}(ho:s.heap.get? a=some o)(hd:o.data=.set es ep t)(D:oH w es t ns N)(Hi:BT w=false->SetTable.below t.place slot=i)
  (h1:∀x slot',(iN w a ep es)[i]? =some x->(BT w=false->SetTable.below t.place slot'=i+1)->Q (some (x.2,slot')) s) (h2:(iN w a ep es)[i]? =none->Q none s):
  wpAny (model prog w) A (setNext a slot i ep) Q E s:=by
 unfold setNext;refine aa (dG ho hd D.fits ?_);dsimp only;unfold setsByText;refine aa (aa (jt (ak ?_)));show wpAny _ _ (if BT w=true then _ else _) _ _ _;by_cases hb:BT w=true
 ·rw[aB hb,ao (by simp)];refine aa (E2 ho hd D ?_);refine ak ?_;cases q:(iN w a ep es)[i]? with
  |none=>exact h2 q
  |some x=>exact h1 x slot q fun z=>by rw[hb]at z;cases z
 ·rw[ao hb];have hb':BT w=false:=by simpa using hb
  have e1:t.plain=true:=D.good.plain;have e2:t.led=true:=by rw[D.good.led,hb'];rfl
  have eo:iN w a ep es=es:=by unfold iN;rw[ao hb]
  rw[eo]at h1 h2;show wpAny _ _ (if(!t.plain&&decide (es.size > 1))=true then _ else _) _ _ _;rw[e1,ao (by simp)];refine aa ?_;show wpAny _ _ (if(!t.led&& !es.isEmpty)=true then _ else _) _ _ _;rw[e2,ao (by simp)];refine ak (ak ?_);rw[Hi hb'];by_cases hlt:i<es.size
  ·have hp:i<t.place.size:=by rw[D.good.size];exact hlt
   rw[cz hlt,cz hp];refine h1 es[i] _ (cz hlt) fun _=>?_;have:=Sx.below_at D.good.up hp;simpa[Array.getD,hp]using this
  ·have e3:es[i]? =none:=jx (by omega);rw[e3];exact h2 e3
theorem Hj{Q:Value->Shared->Prop}(ho:s.heap.get? a=some o)(hx:o.ExactSet)(hd:o.data=.set es ep t)(D:oH w es t ns N)
  (h:Q (.ref s.heap.objs.size) {s with heap:=s.heap.push {cls:=.type "set_iterator",data:=.fields #[.int 0 0,.int 0 0,.ref a,.int es.size 0,.int ep 0]}}):
  wpAny (model prog w) A (pyIter (.ref a)) Q E s:=by
 have ty:s.TypeIs (.ref a) "set":=⟨o,ho,hx.1⟩
 refine qf ty PySem.F.slot_set_iter (bU PySem.F.slot_set_iter ty zM ?_ (PySem.F.args_set_iter_1 _));unfold Builtin.«frozenset.__iter__»;refine aa ?_;show wpAny _ _ (pure a) _ _ _;refine ak (aa ?_);unfold Builtin.Frozenset.sizeOf;refine aa (LA ho hd D.fits (ak ?_));refine aa ?_;unfold setDrawn;refine aa (dG ho hd D.fits ?_);dsimp only;unfold setsByText;refine aa (aa (jt (ak (ak ?_))));have e1:t.plain=true:=D.good.plain;show wpAny _ _ (if(!BT w&&(!t.plain&&decide (es.size > 1)))=true then _ else _) _ _ _;rw[e1,ao (by simp)];refine aa (ak (aa (wpAny_setEpoch_of ho hd D.fits ?_)));refine aa (cG (ak ⟨_,rfl,"set_iterator",_,⟨_,aE _ rfl,rfl⟩,gn.lookup,?_⟩));simpa[rawInt]using h
theorem Hl{I:Addr}{slot i:Nat}{x:Int×Value}{Q:Option Value->Shared->Prop}(hI:jZ s.heap I a slot i es.size ep)(ne:a≠I)(ho:s.heap.get? a=some o)(hd:o.data=.set es ep t)(D:oH w es t ns N)(Hi:BT w=false->SetTable.below t.place slot=i)
  (hx:(iN w a ep es)[i]? =some x)
  (h:∀h' slot',jZ h' I a slot' (i+1) es.size ep->(BT w=false->SetTable.below t.place slot'=i+1)->Heap.SameBut I s.heap h'->Q (some x.2) {s with heap:=h'}):
  wpAny (model prog w) A (pyNext (.ref I)) Q E s:=by
 have ty:s.TypeIs (.ref I) "set_iterator":=⟨_,hI,rfl⟩
 unfold pyNext;refine aa (gM (bZ (name:=Str.ofString "__next__") ty gn (bU gn ty p7 ?_ (qR _))));show wpAny _ _ (fieldsOf (.ref I) >>=_) _ _ _;refine aa (qh hI rfl ?_);show wpAny _ _ (setEntries a >>=_) _ _ _;refine aa (LA ho hd D.fits ?_);rw[ao (by simp)];show wpAny _ _ (setNext a ((slot:Int).toNat) ((i:Int).toNat) ((ep:Int).toNat) >>=_) _ _ _;rw[cJ,cJ,cJ];refine aa (E3 ho hd D Hi (fun y slot' hy hr=>?_) fun z=>by rw[hx]at z;cases z);rw[hx]at hy;cases hy;dsimp only;refine aa (bQ hI (by simp) fun h1 e1 s1=>?_)
 replace s1:Heap.SameBut I s.heap h1:=s1
 replace e1:jZ h1 I a slot' i es.size ep:=e1
 refine aa (bQ (s:={s with heap:=h1}) e1 (by simp) fun h2 e2 s2=>?_)
 replace s2:Heap.SameBut I h1 h2:=s2
 replace e2:jZ h2 I a slot' (i+1) es.size ep:=by
  have z:((i+1:Nat):Int)=(i:Int)+1:=by omega
  unfold jZ;rw[z];simpa[rawInt]using e2
 exact ak ⟨_,rfl,ak (h h2 slot' e2 hr (s1.trans s2))⟩
theorem Ks{I:Addr}{slot i:Nat}{Q:Option Value->Shared->Prop}(hh:A.handled=none)(hI:jZ s.heap I a slot i es.size ep)(ho:s.heap.get? a=some o)(hd:o.data=.set es ep t)(D:oH w es t ns N)(Hi:BT w=false->SetTable.below t.place slot=i)
  (hx:(iN w a ep es)[i]? =none) (h:∀h',Heap.ExtBut I s.heap h'->Q none {s with heap:=h'}):
  wpAny (model prog w) A (pyNext (.ref I)) Q E s:=by
 have ty:s.TypeIs (.ref I) "set_iterator":=⟨_,hI,rfl⟩
 unfold pyNext;refine aa (gM (bZ (name:=Str.ofString "__next__") ty gn (bU gn ty p7 ?_ (qR _))));show wpAny _ _ (fieldsOf (.ref I) >>=_) _ _ _;refine aa (qh hI rfl ?_);show wpAny _ _ (setEntries a >>=_) _ _ _;refine aa (LA ho hd D.fits ?_);rw[ao (by simp)];show wpAny _ _ (setNext a ((slot:Int).toNat) ((i:Int).toNat) ((ep:Int).toNat) >>=_) _ _ _;rw[cJ,cJ,cJ];refine aa (E3 ho hd D Hi (fun y slot' hy hr=>by rw[hx]at hy;cases hy) fun _=>?_);dsimp only;refine aa (jr hI rfl (by simp) ?_);show wpAny _ _ (newExc (.type "StopIteration") [] >>=_) _ _ _;refine aa ?_;simp only[newExc,newTuple];refine aa (cG ?_ (by size_fits));refine aa (m:=firstArgMember _ _) (jM (a:=Value.none) (by first|rfl|(simp only[firstArgMember];rfl)) ?_);refine cG ?_ (by size_fits);simp only[raiseNew];refine aa (wpAny_handled ?_);rw[show A.in1.handled=none from hh];refine aa (ak (wpAny_throw ?_));refine aa (dZ (b:=true) (T:="StopIteration") ⟨_,aE _ rfl,rfl⟩ ye ?_);exact ak (h _ (((ee ..).extBut.push _).push _))
theorem MK{Q:Bool->Shared->Prop}(hT:s.TypeIs (.ref a) "set")(h:Q false s):wpAny (model prog w) A (Builtin.List.listLengthHint (.ref a)) Q E s:=by
 unfold Builtin.List.listLengthHint;refine aa (wpAny_specialOf hT PySem.F.slot_set_len.lookup ?_);generalize hid:("set.__len__" :String)=id0
 wp_delta
 rw[show splitId id0=some ("set","__len__")from by subst hid;decide +kernel];subst hid;refine aa (dZ (T:="set") (b:=true) hT (by rw[lP];kernel_rfl) ?_);refine wpAny_ite_split (fun hab=>absurd hab (by decide)) (fun _=>?_);refine wpAny_ite_split (fun _=>?_) (fun hab=>absurd (by decide +kernel) hab);exact aa (wpAny_typeOf hT (ak h))
theorem Ku(hh:A.handled=none)(I:Addr)(ne:a≠I)(hd:o.data=.set es ep t)(D:oH w es t ns N):
  Walks prog w A I [I,a] [I] es.size (fun i v=>∃e,(iN w a ep es)[i]? =some e/\v=e.2) (fun i h=>(∃slot,jZ h I a slot i es.size ep/\(BT w=false->SetTable.below t.place slot=i))/\h.get? a=some o) where
 sub:=fun b hb=>by simp at hb;simp[hb]
 frame:=fun _ _ _ st hk=>⟨let ⟨slot,e,r⟩:=st.1;⟨slot,hk I (by simp) _ e,r⟩,hk a (by simp) _ st.2⟩
 item:=fun i s Q E hi st hQ=>by
  obtain⟨⟨slot,e,r⟩,ho⟩:=st;have hsz:(iN w a ep es).size=es.size:=by rw[<- aJ,(vh w a ep es).length_eq,aJ]
  have hx:(iN w a ep es)[i]? =some (iN w a ep es)[i]:=cz (by omega);refine Hl e ne ho hd D r hx fun h' slot' e' r' sb=>?_;exact hQ _ h' s.toks ⟨_,hx,rfl⟩ ⟨⟨slot',e',r'⟩,(sb.2 a ne).trans ho⟩ fun b u hb q=>(sb.2 b (fun z=>hb (by simp[z]))).trans q
 done:=fun s Q E st hQ=>by
  obtain⟨⟨slot,e,r⟩,ho⟩:=st;have hsz:(iN w a ep es).size=es.size:=by rw[<- aJ,(vh w a ep es).length_eq,aJ]
  exact Ks hh e ho hd D r (jx (by omega)) fun h' eb=>hQ h' s.toks fun b u hb q=>eb b u (fun z=>hb (by simp[z])) q
 self:=fun i s Q E st hQ=>by
  obtain⟨⟨slot,e,r⟩,ho⟩:=st;have ty:s.TypeIs (.ref I) "set_iterator":=⟨_,e,rfl⟩
  refine qf ty qS (bU qS ty yl ?_ (zN _));show wpAny _ _ (ret (.ref I)) _ _ s;exact ak ⟨_,rfl,"set_iterator",_,ty,gn.lookup,hQ⟩
theorem Po(hx:o.ExactSet)(hd:o.data=.set es ep t)(D:oH w es t ns N):PySem.W.KdlSrc prog w "set" a a es.size (fun i v=>∃e,(iN w a ep es)[i]? =some e/\v=e.2) (fun h=>h.get? a=some o) where
 type:=fun _ hm=>⟨o,hm,hx.1⟩
 there:=fun _ hm=>⟨aF hm,aF hm⟩
 keep:=fun _ _ hm hk=>hk a (.inl rfl) o hm
 notList:=by decide
 notTuple:=by decide
 hint:=fun _ _ _ _ hm hq=>MK ⟨o,hm,hx.1⟩ hq
 iter:=fun _ _ hh hm=>⟨_,_,(fun _ _ hq=>Hj hm hx hd D hq),Ku hh _ (aT (aF hm)) hd D,⟨⟨0,aE _ rfl,fun _=>Sx.G9 D.good.up⟩,af _ hm⟩⟩
end
theorem vm:∀{ks:List Int},(ks.map (Sum.inl:Int->Key)).Nodup->ks.Nodup
 |[],_=>wo
 |k::ks,h=>by
  rw[aV,tL]at h;exact List.nodup_cons.mpr ⟨fun q=>h.1 (bV q),vm h.2⟩
def ym(w:World)(a:Addr)(ns:List Int):HO:=.ext fun h=>∃N,iT w h a ns N
section
variable{X:Cx}{pins:List (Addr×Obj)}{σ:St}{H:Hp}{s:Shared}
theorem IQ{P:Program}{w:World}{H:Hp}{h:Heap}{a:Addr}{ns:List Int}{N:Nat}(g:iT w h a ns N):eX P w H h a (ym w a ns):=
 ⟨⟨N,g⟩,(by obtain⟨o,_,_,_,ho,_⟩:=g;exact⟨o,ho⟩),fun h1 h2 ⟨M,g1⟩ k=>⟨M,g1.at k⟩⟩
def V6(w:World):List V->Hp->VK->Prop:=fun vs H Q=>∃(a:Addr) (kvs:List (Key×V)) (ks:List Int),vs=[V.ref a]/\Rd H a (.dK kvs)/\kvs.map (·.1)=ks.map Sum.inl/\ks.length<=1000/\∀p,H p=none->ks.Nodup->Q (.ref p) (upd H p (ym w p ks))
theorem IS:lE X (.type "set") (V6 X.w):=by
 intro pins s σ H vs us Q I r h;obtain⟨a,kvs,ks,rfl,hs,hk,hl,q⟩:=h;rw[cC.zh r];obtain⟨z,y,ws,ep,kv,o,es,ho,hx,hdt,hkeys,hp,hn⟩:=hs.dK I;have e1:ws.map (·.1)=ks.map Sum.inl:=by
  rw[<- hk];have:∀{l1:List (Key×V)} {l2:List (Key×Value)},KV l1 l2->l2.map (·.1)=l1.map (·.1):=by
   intro l1 l2 h;unfold KV at h;induction h with
   |nil=>rfl
   |cons h1 _ ih=>rw[aV,aV,ih,h1.1]
  exact this kv
 have nd:ks.Nodup:=by
  rw[e1]at hn;exact vm hn
 have hlen:es.size=ks.length:=by
  have l1:=hp.length;rw[aJ]at l1;have l2:=congrArg List.length e1;rw[ai,ai]at l2;omega
 have DI:IP s.heap a o es ep ks:=by
  refine⟨ho,hx,hdt,hlen,fun j k hj=>?_⟩;have hjl:j<es.size:=by rw[hlen];exact(List.getElem?_eq_some_iff.mp hj).1
  have ew:(ws.map (·.1))[j]? =some (Sum.inl k):=by rw[e1,bf,hj];rfl
  rw[bf]at ew;cases hw:ws[j]? with
  |none=>rw[hw]at ew;cases ew
  |some kv2=>
   rw[hw]at ew;obtain⟨k2,v2⟩:=kv2;have e2:k2=Sum.inl k:=aQ ew;subst e2;obtain⟨h1,h2⟩:=hp.get? (e:=es[j]) (by simp[hjl]) hw;obtain⟨k',h3,h4⟩:=hkeys es[j] (Array.getElem_mem hjl);have e3:k'=Sum.inl k:=(cN X.prog X.w).inj _ _ _ h3 h1;subst e3;obtain⟨t,e5⟩:=A1 (k:=k) (v:=es[j].key) h1;refine⟨t,es[j].val,?_⟩;rw[cz hjl];have e6:es[j]=⟨es[j].hash,es[j].key,es[j].val⟩:=rfl;rw[e6,h4,e5];rfl
 refine Kr DI y nd hl fun h' g' k'=>?_;exact⟨.ref _,_,I.laid (t':=s.toks) k' (aq _) (IQ g'),rfl,q _ (I.hok.fresh (aq _)) nd⟩
def Y5(w:World):R2:=fun x y H Q=>∃(a b:Addr) (ns ms us:List Int),x=.ref a/\y=.ref b/\H a=some (ym w a ns)/\H b=some (ym w b ms)/\a≠b/\ns.length+ms.length<=2000/\ns.Nodup/\ms.Nodup/\us.Nodup/\(∀i,i∈us↔i∈ns\/i∈ms)/\
 ∀p,H p=none->Q (.ref p) (upd H p (ym w p us))
theorem SR:ug X (binaryOp .BitOr) (Y5 X.w):=by
 intro pins s σ H x y v u Q I rx ry h;obtain⟨a,b,ns,ms,us,rfl,rfl,ha,hb,ne,hl,n1,n2,n3,mem,q⟩:=h;cases rx;cases ry;obtain⟨⟨N,ga⟩,_⟩:=I.hok a _ ha;obtain⟨⟨M,gb⟩,_⟩:=I.hok b _ hb;refine SQ ga gb ne hl n1 n2 n3 mem fun h' M' g' k'=>?_;exact⟨.ref _,_,I.laid (t':=s.toks) k' (aq _) (IQ g'),rfl,q _ (I.hok.fresh (aq _))⟩
def ML(w:World):List V->Hp->VK->Prop:=fun vs H Q=>∃(a:Addr) (ns:List Int),vs=[V.ref a]/\H a=some (ym w a ns)/\
 ∀(ns':List Int) (p:Addr),ns'.Perm ns->ns'.Pairwise (· <= ·)->H p=none->Q (.ref p) (upd H p (.lst (ns'.map V.int)))
theorem Ho(hc:X.calm=true):lE X (.builtin "sorted") (ML X.w):=by
 intro pins s σ H vs us Q I r h;obtain⟨a,ns,rfl,hs,q⟩:=h;rw[cC.zh r];obtain⟨⟨N,o,es,ep,t,ho,hx,hd,D⟩,_⟩:=I.hok a _ hs;have pe:=vh X.w a ep es;have sz:(iN X.w a ep es).size=es.size:=by rw[<- aJ,pe.length_eq,aJ]
 have ne:es.size<=sizeLine:=by have:=D.le;have:=D.most;rw[jN];omega
 refine zx (ns:=(iN X.w a ep es).toList.map EZ) (Po hx hd D) (I.ok.hd hc) ho ne (fun acc hacc=>?_) fun h' h2 tk out c ns' k1 k2 hD a1 a2 a3=>?_
 ·refine um (by rw[aJ,hacc.1,ai,aJ,sz]) fun j v e=>?_;obtain⟨x,hx',rfl⟩:=hacc.2 j v (by rw[<- jT];exact e);have hxm:x∈(iN X.w a ep es).toList:=Array.mem_toList_iff.mpr (Array.mem_of_getElem? hx');obtain⟨i,u,rfl⟩:=D.elem x (pe.mem_iff.mp hxm);refine⟨i,u,?_,rfl⟩;rw[bf,jT,hx'];rfl
 ·have I1:bJ X pins σ H {s with heap:=h',toks:=tk}:=I.kept k1;have pm:ns'.Perm ns:=a2.trans ((pe.map EZ).trans D.keys);have hlen:(ns'.map V.int).length<=sizeLine:=by rw[ai,pm.length_eq, <- D.len];exact ne
  exact⟨.ref _,upd H h'.objs.size (.lst (ns'.map V.int)),I1.laid (t':=tk) k2 (aq _) ⟨hlen,out.toList,c,pB a1,hD⟩,rfl,q ns' _ pm a3 (I1.hok.fresh (aq _))⟩
end
theorem zO(o:Obj)(f:Array Value->Array Value):(o.mapFields f).dict=o.dict:=by
 obtain⟨c,d,dt,sl⟩:=o;cases dt<;>rfl
def Ik(h:Heap)(e:Addr)(cls:Value)(xd:Option Addr)(tb:Value):Prop:=
 ∃oe vs,h.get? e=some oe/\oe.cls=cls/\oe.dict=xd/\oe.data=.fields vs/\vs[1]? =some tb
def Lw(h:Heap)(T:Addr)(fl:Value):Prop:=∃oT ts,h.get? T=some oT/\oT.data=.fields ts/\ts[3]? =some fl
structure IT (fs:List Addr) (ch:Addr->Prop) (h h':Heap):Prop where
 keep:∀b o,b∉fs->¬ch b->h.get? b=some o->h'.get? b=some o
 slot:∀b o,b∈fs->¬ch b->h.get? b=some o->∃sl,h'.get? b=some {o with slots:=sl}
section
variable{M:Model}{A:Around}{E:Value->Shared->Prop}{s:Shared}{base:Heap}{env:Env}{outer:List Env}{L e T:Addr}{cls head fl:Value}{xd:Option Addr}{hadNext:Bool}{Q:Unit->Shared->Prop}
theorem zP{tb:Value}(hfr:A.frames=some (env::outer))(hl:s.heap.FunFrames base (env::outer))(hf:env.frame=some L)(hx:Ik s.heap e cls xd tb)
  (h:∀h' T',IT (frs (env::outer)) (· =e) s.heap h'->Ik h' e cls xd (.ref T')->Lw h' T' (rawInt L)->s.heap.objs.size<=T'->T'≠e->Q () {s with heap:=h'}):
  wpAny M A (do let a <- frameOf env;let pl <- entryPlaceOf L hadNext;let b <- EntryCells.newEntry head a .none (rawInt L) .none pl;setField (.ref e) 1 b) Q E s:=by
 obtain⟨oe,vs,he,hc,hxd,hd,h1⟩:=hx;have hsz:1<vs.size:=(Array.getElem?_eq_some_iff.mp h1).1;have Y6:e∉(env::outer).filterMap (·.frame):=fun hm=>by
  obtain⟨_,o,ho,hnf⟩:=hl.mem hm;rw[he]at ho;injection ho with ho;subst ho;exact hnf vs hd
 refine aa (wpAny_frameOf_fun hfr hl hf fun h1 hs1=>?_);refine aa (wpAny_entryPlaceOf fun pl hpl=>?_);unfold EntryCells.newEntry newFields;refine aa (cG ?_ (hpl.sizeOk5 _ _ _ _ _));have UZ:h1.get? e=some oe:=(hs1.2.1 e Y6).trans he;have ER:=af (h:=h1) {cls:=.type "traceback",dict:=none,data:=.fields ([head,.ref L,.none,rawInt L,.none]++(if pl.isEmpty then List.replicate 6 Value.none else pl)).toArray} UZ;refine jr ER hd hsz ?_;have U0:h1.objs.size≠e:=dz (aF UZ);have SS:=gX hd (·.setIfInBounds 1 (Value.ref h1.objs.size));have Pp:=cU (Obj.mapFields (·.setIfInBounds 1 (Value.ref h1.objs.size))) ER (rY SS);have hT3:=(bO (h1.push {cls:=.type "traceback",dict:=none,data:=.fields ([head,.ref L,.none,rawInt L,.none]++(if pl.isEmpty then List.replicate 6 Value.none else pl)).toArray})
  (Obj.mapFields (·.setIfInBounds 1 (Value.ref h1.objs.size))) (bP U0)).trans (aE h1 rfl)
 have keep:∀b o,b≠e->h1.get? b=some o->
   ((h1.push {cls:=.type "traceback",dict:=none,data:=.fields ([head,.ref L,.none,rawInt L,.none]++(if pl.isEmpty then List.replicate 6 Value.none else pl)).toArray}).update e (Obj.mapFields (·.setIfInBounds 1 (Value.ref h1.objs.size)))).get? b=some o:=
  fun b o JT hb=>by
   rw[bO _ _ (bP JT)];exact af _ hb
 refine h _ h1.objs.size ⟨fun b o hb JT e'=>keep b o JT ((hs1.2.1 b hb).trans e'),fun b o _ JT e'=>?_⟩ ⟨_,_,Pp,(Obj.cls_mapFields _ _).trans hc,(zO _ _).trans hxd,SS,by simp[hsz]⟩ ⟨_,_,hT3,rfl,?_⟩ ?_ U0
 ·obtain⟨sl,hs⟩:=hs1.2.2 b o e';exact⟨sl,keep b _ JT hs⟩
 ·first|(simp;done)|(rcases hpl with rfl|⟨_,_,_,_,_,_,_,rfl⟩<;>simp)
 ·rw[hs1.1];exact aq _
theorem Hq(hfr:A.frames=some (env::outer))(hl:s.heap.FunFrames base (env::outer))(hf:env.frame=some L)(hx:Ik s.heap e cls xd .none)
  (h:∀h' T',IT (frs (env::outer)) (· =e) s.heap h'->Ik h' e cls xd (.ref T')->Lw h' T' (rawInt L)->s.heap.objs.size<=T'->T'≠e->Q () {s with heap:=h'}):
  wpAny M A (noteFrame (.ref e) env) Q E s:=by
 obtain⟨oe,vs,he,hc,hxd,hd,h1⟩:=id hx;unfold noteFrame;simp only[hf];refine aa (cA he hd h1 ?_);rw[ao (by decide)];exact zP hfr hl hf hx h
theorem Kv(hfr:A.frames=some (env::outer))(hl:s.heap.FunFrames base (env::outer))(hf:env.frame=some L)(hx:Ik s.heap e cls xd (.ref T))(hT:Lw s.heap T .none)(U0:T≠e)
  (h:∀h' T',IT (frs (env::outer)) (fun b=>b=e\/b=T) s.heap h'->Ik h' e cls xd (.ref T')->Lw h' T' (rawInt L)->s.heap.objs.size<=T'->T'≠e->Q () {s with heap:=h'}):
  wpAny M A (noteFrame (.ref e) env) Q E s:=by
 obtain⟨oe,vs,he,hc,hxd,hd,h1⟩:=id hx;obtain⟨oT,ts,U1,SV,h3⟩:=hT;unfold noteFrame;simp only[hf];refine aa (cA he hd h1 ?_);rw[aB (show(Value.ref T != Value.none)=true from by simp)];refine aa (cA U1 SV h3 ?_);rw[ao (show ¬((Value.none==rawInt L)=true)from by simp[rawInt])];refine aa (jr U1 SV (Array.getElem?_eq_some_iff.mp h3).1 ?_);have other:∀b,b≠T->(s.heap.update T (Obj.mapFields (·.setIfInBounds 3 Value.none))).get? b=s.heap.get? b:=fun b hb=>bO _ _ (bP hb);have noRecord:∀b o,s.heap.get? b=some o->(∀vs,o.data≠.fields vs)->b≠T:=fun b o hb hnf q=>by
  rw[q,U1]at hb;injection hb with hb;subst hb;exact hnf ts SV
 have hTn:(s.heap.update T (Obj.mapFields (·.setIfInBounds 3 Value.none))).objs.size=s.heap.objs.size:=Heap.size_after_update ..;refine zP hfr (hl.of_keeps fun b o hb hnf=>⟨o,(other b (noRecord b o hb hnf)).trans hb,rfl⟩) hf ⟨oe,vs,(other e (bP U0)).trans he,hc,hxd,hd,h1⟩ fun h' T' N X R n1 n2=>?_;refine h h' T' ⟨fun b o hb hc' e'=>N.keep b o hb (fun q=>hc' (.inl q)) ((other b fun q=>hc' (.inr q)).trans e'),fun b o hb hc' e'=>?_⟩ X R (by rw[<- hTn];exact n1) n2;exact N.slot b o hb (fun q=>hc' (.inl q)) ((other b fun q=>hc' (.inr q)).trans e')
theorem E4(hx:Ik s.heap e cls xd (.ref T))(hT:Lw s.heap T fl)(U0:T≠e)
  (h:∀h',(∀b o,b≠T->s.heap.get? b=some o->h'.get? b=some o)->Ik h' e cls xd (.ref T)->Lw h' T .none->Q () {s with heap:=h'}):
  wpAny M A (setFlight (.ref e) none) Q E s:=by
 obtain⟨oe,vs,he,hc,hxd,hd,h1⟩:=id hx;obtain⟨oT,ts,U1,SV,h3⟩:=hT;have V7:3<ts.size:=(Array.getElem?_eq_some_iff.mp h3).1;have other:∀b,b≠T->(s.heap.update T (Obj.mapFields (·.setIfInBounds 3 ((none:Option Addr).elim Value.none fun f=>rawInt f)))).get? b=s.heap.get? b:=
  fun b hb=>bO _ _ (bP hb)
 unfold setFlight;refine aa (cA he hd h1 ?_);rw[aB (show(Value.ref T != Value.none)=true from by simp)];refine jr U1 SV V7 (h _ (fun b o hb e'=>(other b hb).trans e') ⟨oe,vs,(other e (bP U0)).trans he,hc,hxd,hd,h1⟩ ?_);exact⟨_,_,cU _ U1 (rY (gX SV _)),gX SV _,by simp[V7]⟩
end
theorem MM{t:TS}{k:wj}{σ:St}{H:Hp}(h:∀k',k'=k->t k' σ H):t k σ H:=h k rfl
theorem sq{t u:TS}{D:wj}{σ:St}{H:Hp}(h:∀N:St->Hp->Prop,(∀σ' H',u D σ' H'->N σ' H')->t {D with nx:=N} σ H):CO t u D σ H:=h (u D) fun _ _ z=>z
theorem aR{G:Prop}(h:∀P:Prop,(G->P)->P):G:=h G id
structure OC (X:Cx) (pins:List (Addr×Obj)) (a:Addr):Prop where
 sz:X.Bb.heap.objs.size<=a
 loc:a≠X.env.locals
 Y7:∀x c,X.env.cells.lookup x=some c->c≠a
 pin:∀p∈X.pn++pins,p.1≠a
section
variable{X:Cx}{pins:List (Addr×Obj)}{σ:St}{H:Hp}{s:Shared}{a T:Addr}{cls:Value}{xd:Option Addr}{h':Heap}
theorem bJ.off(I:bJ X pins σ H s)(h:s.heap.objs.size<=a):OC X pins a:=by
 refine⟨aP I.sz h,fun q=>?_,fun x c e q=>?_,fun p hp q=>?_⟩
 ·have:=I.lt;rw[q]at h;exact absurd (br this h) (cV _)
 ·obtain⟨v,o,ho,_⟩:=I.cell x c e;have:=aF ho;rw[q]at this;exact absurd (br this h) (cV _)
 ·obtain⟨e,_⟩:=I.pin p hp;have:=aF e;rw[q]at this;exact absurd (br this h) (cV _)
theorem bJ.note{ch:List Addr}(I:bJ X pins σ H s)(hch:∀b∈ch,OC X pins b/\H b=none)(N:IT (frs X.stack) (· ∈ch) s.heap h'):bJ X pins σ H {s with heap:=h'}:=by
 have up:∀b o,b∉ch->s.heap.get? b=some o->∃sl,h'.get? b=some {o with slots:=sl}:=fun b o hc e=>by
  by_cases hb:b∈frs X.stack
  ·exact N.slot b o hb hc e
  ·exact⟨o.slots,N.keep b o hb hc e⟩
 refine I.step (g':=s.gens) (d':=s.drawn) (t':=s.toks) (ch:=ch) (fun b hb=>⟨.inr (hch b hb).1.sz,(hch b hb).1.loc,(hch b hb).1.Y7,(hch b hb).1.pin⟩) (fun b o hL hb hc e n=>?_) (fun b o _ _ hc e _=>up b o hc e) (fun _ _ _ _ n=>n)
  (fun b o hc e=>?_) (fun _ _ e=>e) (fun _ _ _ e=>e) (fun b ps e=>⟨#[],by rw[e];simp⟩) (fun m hm=>?_) (fun b u e=>?_) I.bare
 ·exact N.keep b o (fun z=>(List.mem_cons.mp (I.CM b z)).elim hL hb) hc e
 ·obtain⟨sl,q⟩:=up b o hc e;exact⟨_,q⟩
 ·obtain⟨o,es,ep,ho,r⟩:=hm;obtain⟨sl,q⟩:=up _ o (fun z=>(hch _ z).1.loc rfl) ho;exact⟨_,es,ep,q,r⟩
 ·have tr:∀c w,H c=some w->c∉frs X.stack/\c∉ch:=fun c w q=>⟨fun z=>(by rw[I.CN c z]at q;cases q),fun z=>(by rw[(hch c z).2]at q;cases q)⟩
  refine(I.hok b u e).stay (fun c v hc q=>?_) (fun _ q=>q) fun _ _ q=>q;rcases hc with z|z
  ·subst z;exact N.keep c v (tr c _ e).1 (tr c _ e).2 q
  ·exact N.keep c v (tr c _ z).1 (tr c _ z).2 q
end
structure IU (X:Cx) (pins:List (Addr×Obj)) (σ:St) (H:Hp) (s:Shared) (a:Addr) (cls:Value) (xd:Option Addr):Prop where
 inv:bJ X pins σ H s
 off:OC X pins a
 free:H a=none
 exc:Ik s.heap a cls xd .none\/∃T,Ik s.heap a cls xd (.ref T)/\Lw s.heap T .none/\T≠a/\OC X pins T/\H T=none
def B8(P:Program)(w:World):nZ:=fun outer H s E e s'=>∃a cls xd T H',e=.ref a/\Ik s'.heap a cls xd (.ref T)/\Lw s'.heap T .none/\T≠a/\s'.os=s.os/\AllBare s'.gens/\
 Un (frs outer) [] H H' s.heap s'.heap/\qp P w H' s'.heap/\s.heap.objs.size<=a/\s.heap.objs.size<=T/\H' a=none/\H' T=none/\E cls xd H'
def Hr(X:Cx)(E:XK):Prop:=∀(pins:List (Addr×Obj)) (σ:St) (H:Hp) (s:Shared) (a:Addr) (cls:Value) (xd:Option Addr),IU X pins σ H s a cls xd->E cls xd H->X.xe (.ref a) s
theorem eY{X:Cx}{E:XK}(h:Hr X E):lq (B8 X.prog X.w) X E:=by
 intro pins σ H s e s' I hx;obtain⟨a,cls,xd,T,H',rfl,h1,h2,h3,os,bare,un,hok,na,nT,fa,fT,hE⟩:=hx;exact h pins σ H' s' a cls xd ⟨I.QW (ch:=[]) os un hok bare (fun b z=>absurd z (by simp)),I.off na,fa,.inr ⟨T,h1,h2,h3,I.off nT,fT⟩⟩ hE
theorem IU.noted{X:Cx}{pins:List (Addr×Obj)}{σ:St}{H:Hp}{s:Shared}{a:Addr}{cls:Value}{xd:Option Addr}{E:Value->Shared->Prop}{Q:Unit->Shared->Prop}(F:IU X pins σ H s a cls xd)(hs:X.stack=X.env::X.outer)(hf:X.env.frame=some X.env.locals)
  (h:∀s' T,bJ X pins σ H s'->Ik s'.heap a cls xd (.ref T)->Lw s'.heap T (rawInt X.env.locals)->T≠a->OC X pins T->H T=none->Q () s') {M:Model} :wpAny M X.A (noteFrame (.ref a) X.env) Q E s:=by
 obtain⟨I,off,fr,hx⟩:=F;have hfr:X.A.frames=some (X.env::X.outer):=by rw[<- hs];exact I.ok.frames
 have hst:=I.stack;rw[hs]at hst;rcases hx with hx|⟨T,hx,hT,ne,Pq,XF⟩
 ·refine Hq hfr hst hf hx fun h' T' N X' R n1 n2=>?_;have J:bJ X pins σ H {s with heap:=h'}:=I.note (ch:=[a]) (fun b hb=>by rw[List.mem_singleton.mp hb];exact⟨off,fr⟩)
   ⟨fun b o hb hc e=>N.keep b o (by rw[<- hs];exact hb) (fun z=>hc (by simp[z])) e,fun b o hb hc e=>N.slot b o (by rw[<- hs];exact hb) (fun z=>hc (by simp[z])) e⟩
  exact h _ T' J X' R n2 (I.off n1) (I.hok.fresh n1)
 ·refine Kv hfr hst hf hx hT ne fun h' T' N X' R n1 n2=>?_;have J:bJ X pins σ H {s with heap:=h'}:=I.note (ch:=[a,T]) (fun b hb=>by
    rcases List.mem_cons.mp hb with rfl|hb
    ·exact⟨off,fr⟩
    ·rw[List.mem_singleton.mp hb];exact⟨Pq,XF⟩)
   ⟨fun b o hb hc e=>N.keep b o (by rw[<- hs];exact hb) (fun z=>hc (by rcases z with z|z<;>simp[z])) e,fun b o hb hc e=>N.slot b o (by rw[<- hs];exact hb) (fun z=>hc (by rcases z with z|z<;>simp[z])) e⟩
  exact h _ T' J X' R n2 (I.off n1) (I.hok.fresh n1)
theorem bJ.landed{X:Cx}{pins:List (Addr×Obj)}{σ:St}{H:Hp}{s:Shared}{a T:Addr}{cls fl:Value}{xd:Option Addr}{E:Value->Shared->Prop}{Q:Unit->Shared->Prop}{M:Model}{A:Around}(I:bJ X pins σ H s)(hx:Ik s.heap a cls xd (.ref T))(hT:Lw s.heap T fl)(ne:T≠a)(off:OC X pins T)
  (fr:H T=none) (h:∀s',bJ X pins σ H s'->Ik s'.heap a cls xd (.ref T)->Lw s'.heap T .none->Q () s'):wpAny M A (setFlight (.ref a) none) Q E s:=by
 refine E4 hx hT ne fun h' k X' R=>?_;exact h _ (I.note (ch:=[T]) (fun b hb=>by rw[List.mem_singleton.mp hb];exact⟨off,fr⟩) ⟨fun b o _ hc e=>k b o (fun z=>hc (by simp[z])) e,fun b o _ hc e=>⟨o.slots,k b o (fun z=>hc (by simp[z])) e⟩⟩) X' R
theorem cS{P:Program}{w:World}{K:PySem.W.Frag}{mg:Str->Option Value}{base:Heap}{N:List Str}{qual:Str}{scope:Scope}{f:Addr}{cd:Value}{A:Around}{outer:List Env}{s:Shared}{H:Hp}{E:XK} :
  Hr (ze (B8 P w) P w K mg base N qual scope f cd A outer s H E) E:=by
 intro pins σ H' s1 a cls xd F hE;have off:=F.off;have fr:=F.free;show wpAny _ _ (leaving _ _) _ _ _;unfold leaving;refine aa (F.noted rfl rfl fun s2 T I2 x2 t2 n2 o2 f2=>?_);refine I2.landed x2 t2 n2 o2 f2 fun s3 I3 x3 t3=>?_;exact⟨a,cls,xd,T,H',rfl,x3,t3,n2,I3.os,I3.bare,I3.base,I3.hok,off.sz,o2.sz,fr,f2,hE⟩
theorem IV{P:Program}{w:World}{K:PySem.W.Frag}{mg:Str->Option Value}{base:Heap}{N:List Str}{qual:Str}{scope:Scope}{f:Addr}{cd:Value}{A:Around}{outer:List Env}{s:Shared}{H:Hp}{E:XK} :
  PassesOwn (model P w) (ze (B8 P w) P w K mg base N qual scope f cd A outer s H E).A (ze (B8 P w) P w K mg base N qual scope f cd A outer s H E).env (ze (B8 P w) P w K mg base N qual scope f cd A outer s H E).xe:=
 PassesOwn.leaving
theorem A9.Kw{P:Program}{w:World}{K:PySem.W.Frag}{mg:Str->Option Value}{base:Heap}{x qual:Str}{st:Stmt}{f:Addr}{fd:FuncData}{N ps:List Str}{k:Nat}{sp:Sp}(F:A9 K x qual st f fd)(S:bh N ps (aN st))(len:∀vs H Q E,sp vs H Q E->vs.length=ps.length)
  (hbody:∀(cdv:Value) (A:Around) (outer:List Env) (s:Shared) (H:Hp) (vs:List V) (Q:VK) (E:XK),iC k (A.deeper (envOfC qual (aN st) s.heap.objs.size f cdv))->sp vs H Q E->
   ∃t,Ek (ze (B8 P w) P w K mg base N qual (aN st) f cdv A outer s H E) (gB st) t/\t {nx:=fun _ H'=>Q .dY H',rt:=Q} (start N vs) H):jz P w K mg base (B8 P w) (k+1) f fd ps sp:=by
 obtain⟨oc,od,kV,doc,pm,an,cdv,ct,osl,rfl,lk,hcd⟩:=F.ex;exact Q4 lk hcd S len fun A outer s H vs Q E hr Ls=>hbody cdv A outer s H vs Q E hr Ls
open PySem.Builtin PySem.Builtin.ObjectAttr
abbrev VE:List Value:=[.type "ValueError",.type "Exception",.type "BaseException",.type "object"]
section
variable{prog:Program}{w:World}{A:Around}{E:Value->Shared->Prop}{h:Heap}{g:Array GenState}{d:Drawn}{t:Nat}{os:OsState}
variable{nm q:Str}{C N x:Addr}{bs bm:List Value}{sn:List Str}{sub:List Value}{ab:Bool}{col:Option Bool}{dd:Option Addr}{k0 k1 k2 k3 k5:Option Value}{B newId initId sa owner:String}
 {mN mA:Str->Option Value} {name:Str} {v:Value} {o:Obj}
theorem MN{tk:Tok}{Q:PySem.Fin->Shared->Prop}(SF:StoreFacts B bm sa owner)
  (hC:h.get? C=some (excClassObj nm q C N bs bm true sn sub ab col dd k0 k1 k2 k3 k5 newId)) (hn:h.Ns N mN) (hna:mN name=none)
  (hB:typeLookup (.type B) name=pure none) (hx:h.get? x=some o) (hc:o.cls=.ref C) (hnc:∀c,o.data≠.cls c) (hdn:o.dict=none)
  (hq:∀h' tk',h'.Ns1 h.objs.size (fun y=>if y=name then some v else none)->h'.get? x=some {o with dict:=some h.objs.size} ->
   (∀b ob,b≠x->h.get? b=some ob->h'.get? b=some ob)->Q (.done (.ret .none)) ⟨h',g,d,tk',os⟩):
  wpAny (model prog w) A (Builtin.«object.__setattr__» ⟨[.ref x,.str name tk,v],[]⟩) Q E ⟨h,g,d,t,os⟩:=by
 have hpass:=SF.passes (.ref x);unfold Builtin.«object.__setattr__»
 repeat (first|rw[refuse_eq]|(rw[refuseLoop_ref,hpass])|(with_reducible refine bS hx ?_;rw[hc])|with_reducible refine wpAny_mroOf_exc hC ?_|(with_reducible refine fY hC hn SF.mro hB ?_;rw[hna])|wp_step)
 rw[hdn,ao (by simp[typeHasDict])];split
 ·rename_i hcd;cases hcd
 split
 ·rename_i c hcd;exact absurd hcd (hnc c)
 ·have SW:(h.push {cls:=.type "dict",data:=.dict #[]}).get? x=some o:=af _ hx;have hxs:x≠h.objs.size:=aT (aF hx);refine aa (wpAny_alloc' ?_);refine aa (wpAny_update' SW ?_);refine ak ?_;have hgd:((h.push {cls:=.type "dict",data:=.dict #[]}).update x fun o=>{cls:=o.cls,dict:=some h.objs.size,data:=o.data,slots:=o.slots}).get? h.objs.size
    =some {cls:=.type "dict",data:=.dict #[]}:=
   (Heap.get?_update_ne _ _ _ _ hxs.symm).trans (Heap.get?_push_at rfl rfl)
  have hnd:((h.push {cls:=.type "dict",data:=.dict #[]}).update x fun o=>{cls:=o.cls,dict:=some h.objs.size,data:=o.data,slots:=o.slots}).Ns h.objs.size (fun _=>none):=
   ⟨_, #[],_,hgd,rfl,fun e he=>absurd he (by simp),fun _=>rfl⟩
  show wpAny _ _ (storeInDict h.objs.size (.str name tk) name v) _ _ _;unfold storeInDict newKeyGuard;refine aa (ak (aa (wpAny_nsSet1 (Heap.Ns1.of_empty hnd) fun h' hn' hs=>?_)));obtain⟨oD,esD,epD,Yo,Yp,Yq⟩:=hn'.count (Within.cons name v Within.nil);refine aa (wpAny_lookBehind Yo (by rw[Yp];exact pastItsLine_dict (aP Yq (by rw[az,dj,jN];omega))) ?_)
  wp_walk
  have hx':h'.get? x=some {cls:=o.cls,dict:=some h.objs.size,data:=o.data,slots:=o.slots}:=?_;refine hq h' _ ?_ hx' (fun b ob hbx hb=>?_)
  ·obtain⟨o',es,ep,e1,e2,e3,eu,e4⟩:=hn';exact⟨o',es,ep,e1,e2,e3,eu,fun y=>by rw[e4 y]⟩
  ·exact(hs.2 b (aT (aF hb))).trans ((Heap.get?_update_ne _ _ _ _ hbx).trans (af _ hb))
  ·refine(hs.2 x hxs).trans (cU _ SW ?_);have hfr:=(Heap.get?_some_iff.mp hx).2;obtain⟨oc,od,odt,osl⟩:=o;cases odt<;>first|rfl|exact hfr
theorem Pr{Q:Unit->Shared->Prop}(SF:StoreFacts B bm sa owner)
  (hC:h.get? C=some (excClassObj nm q C N bs bm true sn sub ab col dd k0 k1 k2 k3 k5 newId)) (hn:h.Ns N mN) (hns:mN "__setattr__"=none) (hna:mN name=none)
  (hB:typeLookup (.type B) name=pure none) (hx:h.get? x=some o) (hc:o.cls=.ref C) (hnc:∀c,o.data≠.cls c) (hdn:o.dict=none)
  (hq:∀h' tk',h'.Ns1 h.objs.size (fun y=>if y=name then some v else none)->h'.get? x=some {o with dict:=some h.objs.size} ->
   (∀b ob,b≠x->h.get? b=some ob->h'.get? b=some ob)->Q () ⟨h',g,d,tk',os⟩):
  wpAny (model prog w) A (setAttr (.ref x) name v) Q E ⟨h,g,d,t,os⟩:=by
 have f3:=SF.slot.bind (.ref x);unfold setAttr callSpecial? specialOf
 repeat (any_goals (first|assumption|(with_reducible refine bS hx ?_;rw[hc])|(with_reducible refine fY hC hn SF.mro SF.slot.lookup ?_;rw[hns])|wp_step))
 refine f6 SF.slot.plain SF.entry (wpAny_check_sa SF hC hx hc (MN SF hC hn hna hB hx hc hnc hdn fun h' tk' n' x' k'=>?_))
 repeat (any_goals (first|assumption|wp_step))
 exact hq h' tk' n' x' k'
end
theorem Hs:mroOf (.type "ValueError")=pure VE:=by kernel_rfl
theorem MO:typeLookup (.type "ValueError") "__getattribute__"=pure (some (.builtin "BaseException.__getattribute__")):=by rw[oq,gZ];kernel_rfl
theorem MP:typeLookup (.type "ValueError") "__getattr__"=pure none:=by rw[oq,gZ];kernel_rfl
theorem zQ:Slot "ValueError" "__getattribute__" "BaseException.__getattribute__":=
 .of (owner:="BaseException") (n:="__getattribute__") (by rw[oq,gZ];kernel_rfl) (by decide +kernel) (by decide +kernel) (by decide +kernel)
  (by first|exact .inl (by decide +kernel)|exact .inr (by decide +kernel)) (by rw[lP];kernel_rfl)
section
variable{prog:Program}{w:World}{A:Around}{E:Value->Shared->Prop}{h:Heap}{g:Array GenState}{d:Drawn}{t:Nat}{os:OsState}
variable{nm q:Str}{C N x dx:Addr}{bs:List Value}{sn:List Str}{sub:List Value}{ab:Bool}{col:Option Bool}{dd:Option Addr}{k0 k1 k2 k3 k5:Option Value}{newId:String}
 {mN mA:Str->Option Value} {name:Str} {v:Value} {o:Obj}
theorem MQ{M:Model}{nameV:Value}{Q:Unit->Shared->Prop}(hC:h.get? C=some (excClassObj nm q C N bs VE true sn sub ab col dd k0 k1 k2 k3 k5 newId))
  (hx:h.get? x=some o) (hc:o.cls=.ref C) (hq:Q () ⟨h,g,d,t,os⟩):wpAny M A (checkBuiltinCall "BaseException.__getattribute__" ⟨[.ref x,nameV],[]⟩) Q E ⟨h,g,d,t,os⟩:=by
 have hk:builtinKind "BaseException.__getattribute__"=some .slot:=by decide +kernel
 have hsplit:splitId "BaseException.__getattribute__"=some ("BaseException","__getattribute__"):=by decide +kernel
 have V8:(Value.ref C::VE).contains (.type "BaseException")=true:=by rw[nu];rfl
 have ha:=F.args_bexc_ga (.ref x) nameV;simp only[checkBuiltinCall,hk,hsplit];refine aa ?_
 ·unfold isInstance
  repeat (first|(with_reducible refine bS hx ?_;rw[hc])|(with_reducible refine jg hC ?_;rw[V8])|wp_step)
  exact hq
theorem MR{tk:Tok}{Q:PySem.Fin->Shared->Prop}
  (hC:h.get? C=some (excClassObj nm q C N bs VE true sn sub ab col dd k0 k1 k2 k3 k5 newId)) (hn:h.Ns N mN) (hna:mN name=none)
  (hB:typeLookup (.type "ValueError") name=pure none) (hx:h.get? x=some o) (hc:o.cls=.ref C) (hnc:∀c,o.data≠.cls c) (hdx:o.dict=some dx) (hns:h.Ns1 dx mA) (hv:mA name=some v) (hq:Q (.done (.ret v)) ⟨h,g,d,t,os⟩):
  wpAny (model prog w) A (Builtin.«object.__getattribute__» ⟨[.ref x,.str name tk],[]⟩) Q E ⟨h,g,d,t,os⟩:=by
 unfold Builtin.«object.__getattribute__»
 repeat (any_goals (first|assumption|(with_reducible refine bS hx ?_;rw[hc])|(with_reducible refine fY hC hn Hs hB ?_;rw[hna])|wp_step))
 split
 ·rename_i c hcd;exact absurd hcd (hnc c)
 unfold instanceDict
 repeat (first|(with_reducible refine bS hx ?_;rw[hc])|with_reducible refine bS hC ?_|wp_step)
 rw[hdx]
 repeat (first|(with_reducible refine wpAny_nsGet hns.ns ?_;rw[hv])|wp_step)
 exact hq
theorem V9{tk:Tok}{fill expr:Bool}{Q:Value->Shared->Prop}
  (hC:h.get? C=some (excClassObj nm q C N bs VE true sn sub ab col dd k0 k1 k2 k3 k5 newId)) (hn:h.Ns N mN) (hng:mN "__getattribute__"=none) (hnt:mN "__getattr__"=none) (hna:mN name=none)
  (hB:typeLookup (.type "ValueError") name=pure none) (hx:h.get? x=some o) (hc:o.cls=.ref C) (hnc:∀c,o.data≠.cls c) (hdx:o.dict=some dx) (hns:h.Ns1 dx mA) (hv:mA name=some v) (hh:handedOut v=pure v) (hq:Q v ⟨h,g,d,t,os⟩):
  wpAny (model prog w) A (getAttrBy (.ref x) (.str name tk) fill expr) Q E ⟨h,g,d,t,os⟩:=by
 have f3:=zQ.bind (.ref x);have hx0:(expr&&onTheHeap (Value.builtin "BaseException.__getattribute__"))=false:=by cases expr<;>rfl
 have XG:(Value.builtin "BaseException.__getattribute__"==Value.builtin "object.__getattribute__")=false:=by decide +kernel
 have SW:(onTheHeap (Value.ref C)&&Value.builtin "BaseException.__getattribute__"==Value.builtin "object.__getattribute__")=false:=by rw[XG];rfl
 repeat (any_goals (first|assumption|(with_reducible refine bS hx ?_;rw[hc])|(with_reducible refine fY hC hn Hs MO ?_;rw[hng])|(with_reducible refine fY hC hn Hs MP ?_;rw[hnt])|wp_step))
 refine f6 zQ.plain F.entry_bexc_ga (MQ hC hx hc (MR hC hn hna hB hx hc hnc hdx hns hv ?_))
 repeat (any_goals (first|assumption|wp_step))
theorem Pu{expr:Bool}{Q:Value->Shared->Prop}
  (hC:h.get? C=some (excClassObj nm q C N bs VE true sn sub ab col dd k0 k1 k2 k3 k5 newId)) (hn:h.Ns N mN) (hng:mN "__getattribute__"=none) (hnt:mN "__getattr__"=none) (hna:mN name=none)
  (hB:typeLookup (.type "ValueError") name=pure none) (hx:h.get? x=some o) (hc:o.cls=.ref C) (hnc:∀c,o.data≠.cls c) (hdx:o.dict=some dx) (hns:h.Ns1 dx mA) (hv:mA name=some v) (hh:handedOut v=pure v) (hq:Q v ⟨h,g,d,t+1,os⟩):
  wpAny (model prog w) A (getAttr (.ref x) name expr) Q E ⟨h,g,d,t,os⟩:=by
 unfold getAttr
 repeat (any_goals (first|assumption|with_reducible apply V9 hC hn hng hnt hna hB hx hc hnc hdx hns hv hh|wp_step))
end
end L2
namespace L2
open PySem PySem.Spec PyProof.Rows
section
variable{prog:Program}{w:World}{A:Around}{E:Value->Shared->Prop}{h:Heap}{g:Array GenState}{d:Drawn}{t:Nat}{os:OsState}
variable{nm q:Str}{C N:Addr}{bs bm:List Value}{hdct:Bool}{sn:List Str}{sub:List Value}{ab:Bool}{col:Option Bool}{dd:Option Addr}{k0 k1 k2 k3 k5:Option Value}{B newId initId:String}
theorem MS(F:ExcBaseFacts B newId initId bm){mN:Str->Option Value}{rest:List Value}{fI:Addr}{oI:Obj}{Q:PySem.Fin->Shared->Prop}
  (hC:h.get? C=some (excClassObj nm q C N bs bm hdct sn sub ab col dd k0 k1 k2 k3 k5 newId)) (hn:h.Ns N mN) (hi:mN "__init__"=some (.ref fI))
  (hfI:h.get? fI=some oI) (hfc:oI.cls=.type "function")
  (hq:∀h' e,Heap.MadeExcOf h h' e (.ref C) rest->h.objs.size<=e->
   wpAny (model prog w) A (call (.ref fI) (.ref e::rest)) (fun r s'=>r=.none/\Q (.done (.ret (.ref e))) s') E ⟨h',g,d,t,os⟩) (hrest:rest.length<=sizeLine):
  wpAny (model prog w) A (Builtin.«type.__call__» ⟨.ref C::rest,[]⟩) Q E ⟨h,g,d,t,os⟩:=by
 repeat (first|with_reducible refine bS hC ?_|with_reducible refine wpAny_madeBy_exc hC ?_|wp_step)
 refine codeAny_call_builtin_code (jS _ F.quiet) (wpAny_check_new_sub F hC ?_);refine codeAny_exc_new_sub F hC ?_ hrest;show wpAny _ _ _ _ _ _;have U3:=af {cls:=.ref C,data:=.fields #[.ref h.objs.size,.none,.none,.none,.bool false,.none]}
  (af {cls:=.type "tuple",data:=.seq rest.toArray} hC)
 have Y8:=af {cls:=.ref C,data:=.fields #[.ref h.objs.size,.none,.none,.none,.bool false,.none]}
  (af {cls:=.type "tuple",data:=.seq rest.toArray} hfI)
 have hn1:((h.push {cls:=.type "tuple",data:=.seq rest.toArray}).push {cls:=.ref C,data:=.fields #[.ref h.objs.size,.none,.none,.none,.bool false,.none]}).Ns N mN:=
  let ⟨o,es,ep,e,r⟩:=hn;⟨o,es,ep,af _ (af _ e),r⟩
 have hget:((h.push {cls:=.type "tuple",data:=.seq rest.toArray}).push
   {cls:=.ref C,data:=.fields #[.ref h.objs.size,.none,.none,.none,.bool false,.none]}).get? (h.objs.size+1)=some
   {cls:=.ref C,data:=.fields #[.ref h.objs.size,.none,.none,.none,.bool false,.none]}:=by heap_get
 have hcC:(Value.ref C::bm).contains (.ref C)=true:=by simp
 unfold isInstance
 repeat (first|with_reducible refine bS hget ?_|(with_reducible refine jg U3 ?_;rw[hcC])|wp_step)
 show wpAny _ _ (typeLookup (.ref C) _) _ _ _;refine fY U3 hn1 F.mroIs F.init.lookup ?_;rw[hi];refine dB (aa ?_);unfold bindSpecial;refine aa (wpAny_typeOf (T:="function") ⟨_,Y8,hfc⟩ ?_);rw[aB (by decide)];refine ak (aa (di (hq _ (h.objs.size+1) ⟨fun b o hb=>af _ (af _ hb),lQ (gY _),h.objs.size,hget,lQ (aq _),?_⟩ (gY _)) (fun r s' hr=>?_) fun _ _ x=>x))
 ·exact af _ (Heap.get?_push_at rfl rfl)
 ·obtain⟨rfl,hQ⟩:=hr
  wp_walk
  exact hQ
theorem Pw(F:ExcBaseFacts B newId initId bm){mN:Str->Option Value}{rest:List Value}{fI:Addr}{oI:Obj}{Q:Value->Shared->Prop}
  (hC:h.get? C=some (excClassObj nm q C N bs bm hdct sn sub ab col dd k0 k1 k2 k3 k5 newId)) (hn:h.Ns N mN) (hi:mN "__init__"=some (.ref fI))
  (hfI:h.get? fI=some oI) (hfc:oI.cls=.type "function")
  (hq:∀h' e,Heap.MadeExcOf h h' e (.ref C) rest->h.objs.size<=e->
   wpAny (model prog w) (A.under (.builtin "type.__call__" ⟨.ref C::rest,[]⟩)) (call (.ref fI) (.ref e::rest)) (fun r s'=>r=.none/\Q (.ref e) s') E ⟨h',g,d,t,os⟩) (hrest:rest.length<=sizeLine):
  wpAny (model prog w) A (call (.ref C) rest) Q E ⟨h,g,d,t,os⟩:=by
 have f1:=tc_lookup;have f2:=tc_bind (.ref C);have hT:(⟨h,g,d,t,os⟩:Shared).TypeIs (.ref C) "type":=⟨_,hC,rfl⟩
 refine ow (uM ?_);show wpAny _ _ (callAny (.ref C) _) _ _ _
 repeat (any_goals (first|assumption|with_reducible refine bS hC ?_|wp_step))
 refine⟨rfl,?_⟩;refine codeAny_call_builtin_at (jS _ (by decide +kernel)) entry_typeCall (wpAny_check_type_call_sub hC (MS (hrest:=hrest) F hC hn hi hfI hfc fun h' e hm hs=>?_));exact hq h' e hm hs
theorem Px(F:ExcBaseFacts B newId initId bm){mN:Str->Option Value}{rest:List Value}{Q:PySem.Fin->Shared->Prop}
  (hC:h.get? C=some (excClassObj nm q C N bs bm hdct sn sub ab col dd k0 k1 k2 k3 k5 newId)) (hn:h.Ns N mN) (hni:mN "__init__"=none)
  (hq:∀h' e,Heap.MadeExcOf h h' e (.ref C) rest->h.objs.size<=e->Q (.done (.ret (.ref e))) ⟨h',g,d,t,os⟩) (hrest:rest.length<=sizeLine):
  wpAny (model prog w) A (Builtin.«type.__call__» ⟨.ref C::rest,[]⟩) Q E ⟨h,g,d,t,os⟩:=by
 repeat (first|with_reducible refine bS hC ?_|with_reducible refine wpAny_madeBy_exc hC ?_|wp_step)
 refine codeAny_call_builtin_code (jS _ F.quiet) (wpAny_check_new_sub F hC ?_);refine codeAny_exc_new_sub F hC ?_ hrest;show wpAny _ _ _ _ _ _;have U3:=af {cls:=.ref C,data:=.fields #[.ref h.objs.size,.none,.none,.none,.bool false,.none]}
  (af {cls:=.type "tuple",data:=.seq rest.toArray} hC)
 have hn1:((h.push {cls:=.type "tuple",data:=.seq rest.toArray}).push {cls:=.ref C,data:=.fields #[.ref h.objs.size,.none,.none,.none,.bool false,.none]}).Ns N mN:=
  let ⟨o,es,ep,e,r⟩:=hn;⟨o,es,ep,af _ (af _ e),r⟩
 have hget:((h.push {cls:=.type "tuple",data:=.seq rest.toArray}).push
   {cls:=.ref C,data:=.fields #[.ref h.objs.size,.none,.none,.none,.bool false,.none]}).get? (h.objs.size+1)=some
   {cls:=.ref C,data:=.fields #[.ref h.objs.size,.none,.none,.none,.bool false,.none]}:=by heap_get
 have hcC:(Value.ref C::bm).contains (.ref C)=true:=by simp
 unfold isInstance
 repeat (first|with_reducible refine bS hget ?_|(with_reducible refine jg U3 ?_;rw[hcC])|wp_step)
 show wpAny _ _ (typeLookup (.ref C) _) _ _ _;refine fY U3 hn1 F.mroIs F.init.lookup ?_;rw[hni];refine dB (aa (jM (F.init.bind _) ?_));refine aa (ow (f6 F.init.plain F.initEntry (wpAny_check_init_sub F U3 hget rfl ?_)))
 wp_walk
 refine hq _ _ ⟨fun b o hb=>?_,lQ (gY _),h.objs.size+2,?_,lQ (by omega),?_⟩ (gY _)
 ·rw[bO _ _ (dz (fS (aF hb)))];exact af _ (af _ (af _ hb))
 ·rw[cU _ (af _ hget) rfl];simp only[bT];rfl
 ·rw[bO _ _ (show h.objs.size+1≠h.objs.size+2 by omega)];exact Heap.get?_push_at (by simp only[bT]) rfl
theorem SX(F:ExcBaseFacts B newId initId bm){mN:Str->Option Value}{rest:List Value}{Q:Value->Shared->Prop}
  (hC:h.get? C=some (excClassObj nm q C N bs bm hdct sn sub ab col dd k0 k1 k2 k3 k5 newId)) (hn:h.Ns N mN) (hni:mN "__init__"=none)
  (hq:∀h' e,Heap.MadeExcOf h h' e (.ref C) rest->h.objs.size<=e->Q (.ref e) ⟨h',g,d,t,os⟩) (hrest:rest.length<=sizeLine):
  wpAny (model prog w) A (call (.ref C) rest) Q E ⟨h,g,d,t,os⟩:=by
 have f1:=tc_lookup;have f2:=tc_bind (.ref C);have hT:(⟨h,g,d,t,os⟩:Shared).TypeIs (.ref C) "type":=⟨_,hC,rfl⟩
 refine ow (uM ?_);show wpAny _ _ (callAny (.ref C) _) _ _ _
 repeat (any_goals (first|assumption|with_reducible refine bS hC ?_|wp_step))
 refine⟨rfl,?_⟩;refine codeAny_call_builtin_at (jS _ (by decide +kernel)) entry_typeCall (wpAny_check_type_call_sub hC (Px (hrest:=hrest) F hC hn hni fun h' e hm hs=>?_));exact hq h' e hm hs
theorem IW{M:Model}{env:Env}{s:Shared}{x:Sem Value}{Q:Flow->Shared->Prop}(hbase:bm.contains (.type "BaseException")=true)(hh:A.handled=none)
  (h:wpAny M A x (fun v s₁=>∃e t xd,v=.ref e/\s₁.heap.get? C=some (excClassObj nm q C N bs bm hdct sn sub ab col dd k0 k1 k2 k3 k5 newId)/\
   s₁.heap.get? e=some {cls:=.ref C,dict:=xd,data:=.fields #[.ref t,.none,.none,.none,.bool false,.none]} /\E (.ref e) s₁) E s):
  wpAny M A (raiseStmt env (some x) none) Q E s:=by
 have V8:(Value.ref C::bm).contains (.type "BaseException")=true:=by rw[nu,hbase,Bool.or_true]
 unfold raiseStmt;refine aa (di h (fun v s₁ h₁=>?_) fun _ _ x=>x);obtain⟨e,t,xd,rfl,hC,he,hE⟩:=h₁;obtain⟨hp,g,d,tk,os⟩:=s₁
 repeat (first|with_reducible refine bS he ?_|with_reducible refine bS hC ?_|(with_reducible refine jg hC ?_;rw[V8])|wp_step)
 exact wpAny_raiseNew_none hh hE
end
theorem Ht{K:PySem.W.Frag}{h:Heap}{N:Addr}{mg:Str->Option Value}{n:Str}{v:Value}(X:K.In h)(G:h.Ns N mg)(e:PySem.W.nsIn K N n=some (some v)):mg n=some v:=by
 refine aR fun Pz pz=>?_;obtain⟨o,es,ep,ho,hd,_,hf⟩:=G;refine pz ?_;unfold PySem.W.nsIn at e;split at e
 ·rename_i c d es' n' sl q;have:=X _ _ q;rw[ho]at this;cases this;cases hd;split at e
  ·rename_i en he;cases e;rw[<- hf];unfold nsFind findBy;rw[<- Array.find?_toList,he];rfl
  ·split at e<;>cases e
 ·cases e
structure wU (K:PySem.W.Frag) (C N:Addr) (i:Option Value):Prop where
 obj:∃nm q bs sn sub ab col dd k0 k1 k2 k3 k5,K.lookup C=some (excClassObj nm q C N bs VE true sn sub ab col dd k0 k1 k2 k3 k5 "ValueError.__new__")
 ok:PySem.W.nsOkIn K N=true
 ini:PySem.W.nsIn K N "__init__"=some i
 ga:PySem.W.nsIn K N "__getattribute__"=some none
 gt:PySem.W.nsIn K N "__getattr__"=some none
 sa:PySem.W.nsIn K N "__setattr__"=some none
 kp:PySem.W.keepIn K (.ref C)=true
structure XH (K:PySem.W.Frag) (N:Addr) (f:Str):Prop where
 own:PySem.W.nsIn K N f=some none
 base:typeLookup (.type "ValueError") f=pure none
theorem wU.ns{K:PySem.W.Frag}{C N:Addr}{i:Option Value}(c:wU K C N i){h:Heap}(X:K.In h):h.Ns N (h.nsMap N):=.of_isNs (PySem.W.isNs_of_in X c.ok)
def C8(a C:Addr)(xd:Option Addr):HO:=.ext fun h=>∃oe vs,h.get? a=some oe/\oe.cls=.ref C/\oe.dict=xd/\oe.data=.fields vs
def wV(a C:Addr)(xd:Option Addr):HO:=.ext fun h=>∃t,h.get? a=some {cls:=.ref C,dict:=xd,data:=.fields #[.ref t,.none,.none,.none,.bool false,.none]}
theorem IX{P:Program}{w:World}{H:Hp}{h:Heap}{a C:Addr}{xd:Option Addr}{t:Addr}(e:h.get? a=some {cls:=.ref C,dict:=xd,data:=.fields #[.ref t,.none,.none,.none,.bool false,.none]}):eX P w H h a (wV a C xd):=
 ⟨⟨t,e⟩,⟨_,e⟩,fun h1 h2 ⟨t,q⟩ k=>⟨t,k _ q⟩⟩
theorem Py{P:Program}{w:World}{H:Hp}{h:Heap}{a C:Addr}{xd:Option Addr}{oe:Obj}{vs:Array Value}(e:h.get? a=some oe)(hc:oe.cls=.ref C)(hx:oe.dict=xd)(hd:oe.data=.fields vs):eX P w H h a (C8 a C xd):=
 ⟨⟨oe,vs,e,hc,hx,hd⟩,⟨_,e⟩,fun h1 h2 ⟨oe,vs,q,r⟩ k=>⟨oe,vs,k _ q,r⟩⟩
def wA(H:Hp)(a:Addr):Hp:=fun b=>if b=a then none else H b
theorem kJ{H:Hp}{a:Addr} :wA H a a=none:=aB rfl
theorem ja{H:Hp}{a b:Addr}(h:b≠a):wA H a b=H b:=ao h
section
variable{X:Cx}{pins:List (Addr×Obj)}{σ:St}{H:Hp}{s:Shared}{a C:Addr}{φ:Heap->Prop}
theorem bJ.wA(I:bJ X pins σ H s)(ea:H a=some (.ext φ)):bJ X pins σ (wA H a) s:=by
 have ne:∀b u,H b=some u->(∀ψ,u≠.ext ψ)->L2.wA H a b=some u:=fun b u e n=>by
  by_cases q:b=a
  ·subst q;rw[ea]at e;exact absurd (aQ e).symm (n φ)
  ·rw[ja q];exact e
 have no:∀b,H b=none->L2.wA H a b=none:=fun b e=>by
  by_cases q:b=a
  ·rw[q];exact kJ
  ·rw[ja q];exact e
 refine⟨I.ok,I.os,I.bare,⟨I.base.keep,I.base.slot,fun b o e n hx=>no b (I.base.free b o e n hx),I.base.there,fun b xs e=>ne b _ (I.base.tups b xs e) (fun _=>nofun),fun b o u e=>ne b _ (I.base.uO b o u e) (fun _=>nofun),fun b ps e=>?_⟩,
  I.loc,I.cell,no _ I.free,fun x c e=>no _ (I.jh x c e),fun p hp=>?_,fun b u e=>?_,I.len⟩
 ·obtain⟨m,q⟩:=I.base.yg b ps e;exact⟨m,ne b _ q (fun _=>nofun)⟩
 ·refine aR fun Pz pz=>?_;obtain⟨e,n,r⟩:=I.pin p hp;refine pz ?_;exact⟨e,no _ n,r⟩
 ·by_cases q:b=a
  ·rw[q,kJ]at e;cases e
  ·rw[ja q]at e;exact(I.hok b u e).stay (fun _ _ _ z=>z) (fun c z=>ne c _ z (fun _=>nofun)) fun c xs z=>ne c _ z (fun _=>nofun)
end
section
variable{X:Cx}{x:Str}{C N f:Addr}{i:Option Value}{fd:FuncData}{ps:List Str}{sp:Sp}{k:Nat}{wG:List V}{ds:List Value}{E:XK}{np cpos pos:Pos}{e:Expr}{es:List Expr}{t:TA}
def IY(C:Addr)(sp:Sp)(wG:List V)(E:XK)(t:TA):TS:=fun _ σ H=>t σ H fun vs H1=>vs.length<=sizeLine/\∀a,H1 a=none->
 sp (.ref a::(vs++wG)) (upd H1 a (wV a C none)) (fun v H2=>v=.dY/\∃xd,H2 a=some (wV a C xd)/\E (.ref C) xd (wA H2 a)) E0
theorem Kx(c:wU X.K C N (some (.ref f)))(hfn:PySem.W.isFn X.K (.ref f)=true)(F:jz X.prog X.w X.K X.mg X.base ig k f fd ps sp)(hr:iC (k+1) X.A)(hb:jn X.K fd ps ds)(hd:cC wG ds)(hx:Hr X E)
  (hg:Gl X x) (hm:X.mg x=some (.ref C)) (ha:PA X (e::es) t) (hdb:(x==("__debug__" :Str))=false:=by decide) (he:starEach (e::es) X.env=(false,eval e X.env)::starEach es X.env:=by rfl) (hpl:(backTo cpos (starEach es X.env)).any (·.1)=false:=by rfl):
  PS X (.Raise (some (.Call (.Name x np) (e::es) [] cpos)) none pos) (IY C sp wG E t):=by
 intro pins s σ H D I h;refine aR fun Pz pz=>?_;obtain⟨nm,q,bs,sn,sub,ab,col,dd,k0,k1,k2,k3,k5,lC⟩:=c.obj;refine pz ?_;rw[arm_exec_Raise];refine aa (ku ?_);refine IW (C:=C) (nm:=nm) (q:=q) (N:=N) (bs:=bs) (bm:=VE) (hdct:=true) (sn:=sn) (sub:=sub) (ab:=ab) (col:=col) (dd:=dd) (k0:=k0) (k1:=k1) (k2:=k2) (k3:=k3) (k5:=k5) (newId:="ValueError.__new__") (by decide) hr.hd ?_;refine aa (dI ?_ fun v s3 h3=>aa (ku (ak h3)));refine fL (lT I hg hm ?_ hdb);refine ud (h₀:=X.base) I.ok.mod.UH c.kp (dI (ha cpos pins s σ H _ I h) fun us s1 ⟨vs,H1,I1,r,hl,q1⟩=>⟨I1.o7,?_⟩) he hpl;obtain⟨oI,VJ,hcI⟩:∃oI,s1.heap.get? f=some oI/\oI.cls=.type "function":=by
  refine aR fun Pz pz=>?_;obtain⟨o,ho,hc⟩:=Option.map_eq_some_iff.mp (show(X.K.lookup f).map (·.cls)=some (.type "function")from beq_iff_eq.mp hfn);refine pz ?_;exact⟨o,I1.o7 _ _ ho,hc⟩
 have lus:us.length<=sizeLine:=by rw[<- r.length];exact hl
 have hns:=c.ns I1.o7;refine aR fun Pz pz=>?_;obtain⟨hp1,g1,d1,OH,Ri⟩:=s1;refine pz ?_;refine Pw PySem.F.excBase_ValueError (I1.o7 _ _ lC) hns (Ht I1.o7 hns c.ini) VJ hcI (fun h' a hm1 hsz=>?_) lus;refine aR fun Pz pz=>?_;obtain⟨t0,XI,_,_⟩:=hm1.there;refine pz ?_;have I2:bJ X pins σ (upd H1 a (wV a C none)) ⟨h',g1,d1,OH,Ri⟩:=I1.laid (t':=OH) (h':=h') hm1.keeps hsz (IX XI);have hq:=q1 a (I1.hok.fresh hsz);have r2:cC (V.ref a::(vs++wG)) (Value.ref a::(us++ds)):=.cons rfl (r.append hd);have hl2:(Value.ref a::us++ds).length=ps.length:=by
  have e:=r2.length;rw[F.len _ _ _ _ hq]at e;exact e.symm
 refine ow (jQ (F.run _ X.stack _ _ ⟨Value.ref a::us,[]⟩ (Value.ref a::(us++ds)) _ _ E0 (hr.make C us []) (I2.RW.make C us []) (hb _ (Value.ref a::us) I2.o7 hl2) r2 hq) fun r' s' hq'=>?_);cases r' with
 |error e'=>exact False.elim hq'
 |ok fl=>
  cases fl with
  |next=>exact False.elim hq'
  |brk=>exact False.elim hq'
  |cont=>exact False.elim hq'
  |ret u=>
   refine aR fun Pz pz=>?_;obtain⟨v,H3,I3,rv,ev,xd,h3,hE⟩:=I2.after hq';refine pz ?_;subst ev;refine⟨rv,a,?_⟩;refine aR fun Pz pz=>?_;obtain⟨⟨t3,e3⟩,_⟩:=I3.hok a _ h3;refine pz ?_;refine⟨t3,xd,rfl,I3.o7 _ _ lC,e3,?_⟩;exact hx pins σ _ s' a _ xd ⟨I3.wA h3,I1.off hsz,kJ,.inl ⟨_,_,e3,rfl,rfl,rfl,rfl⟩⟩ hE
def PB(C:Addr)(E:XK):TS:=fun _ _ H=>E (.ref C) none H
theorem Ky(c:wU X.K C N none)(hr:iC k X.A)(hx:Hr X E)(hg:Gl X x)(hm:X.mg x=some (.ref C))(hdb:(x==("__debug__" :Str))=false:=by decide):
  PS X (.Raise (some (.Call (.Name x np) [] [] cpos)) none pos) (PB C E):=by
 intro pins s σ H D I h;refine aR fun Pz pz=>?_;obtain⟨nm,q,bs,sn,sub,ab,col,dd,k0,k1,k2,k3,k5,lC⟩:=c.obj;refine pz ?_;rw[arm_exec_Raise];refine aa (ku ?_);refine IW (C:=C) (nm:=nm) (q:=q) (N:=N) (bs:=bs) (bm:=VE) (hdct:=true) (sn:=sn) (sub:=sub) (ab:=ab) (col:=col) (dd:=dd) (k0:=k0) (k1:=k1) (k2:=k2) (k3:=k3) (k5:=k5) (newId:="ValueError.__new__") (by decide) hr.hd ?_;refine aa (dI ?_ fun v s3 h3=>aa (ku (ak h3)));refine fL (lT I hg hm ?_ hdb);refine PySem.W.callWith_K0 I.o7 c.kp ?_;have hns:=c.ns I.o7;refine aR fun Pz pz=>?_;obtain⟨hp1,g1,d1,OH,Ri⟩:=s;refine pz ?_;refine SX PySem.F.excBase_ValueError (I.o7 _ _ lC) hns (i7 I.o7 hns c.ini) (fun h' a hm1 hsz=>?_) (bu _);refine aR fun Pz pz=>?_;obtain⟨t0,XI,_,_⟩:=hm1.there;refine pz ?_;have I2:bJ X pins σ H ⟨h',g1,d1,OH,Ri⟩:=I.kept (t':=OH) (h':=h') hm1.keeps;exact⟨a,t0,none,rfl,I2.o7 _ _ lC,XI,hx pins σ _ _ a _ none ⟨I2,I.off hsz,I.hok.fresh hsz,.inl ⟨_,_,XI,rfl,rfl,rfl,rfl⟩⟩ h⟩
def IZ(K:PySem.W.Frag)(ta:TE)(f:Str):TE:=fun σ H Q=>ta σ H fun x H1=>∃a C N i d fs v,x=.ref a/\H1 a=some (C8 a C (some d))/\H1 d=some (.xd fs)/\wU K C N i/\XH K N f/\fs.lookup f=some v/\Q v H1
theorem C9{f:Str}{ta:TE}(he:PE X e ta)(hb:attributeBase e f X.env (eval e X.env)=eval e X.env):PE X (.Attribute e f pos) (IZ X.K ta f):=by
 intro pins s σ H Q I h;refine Iv hb (dI (he pins s σ H _ I h) fun u s1 eT=>?_);obtain⟨x,H1,I1,rx,a,C,N,i,d,fs,v,ex,ea,ed,c,n,l,q⟩:=eT;subst ex;obtain rfl:u=Value.ref a:=rx;refine aR fun Pz pz=>?_;obtain⟨nm,q',bs,sn,sub,ab,col,dd,k0,k1,k2,k3,k5,lC⟩:=c.obj;refine pz ?_;refine aR fun Pz pz=>?_;obtain⟨⟨oe,vs,Rg,hc,hxd,hdat⟩,_⟩:=I1.hok a _ ea;refine pz ?_;refine aR fun Pz pz=>?_;obtain⟨mA,Y9,Hi⟩:=I1.hok d _ ed;refine pz ?_;refine aR fun Pz pz=>?_;obtain⟨u,hu,ru⟩:=nW.some_of (v:=v) (o:=mA f) (by rw[<- l];exact Hi f);refine pz ?_;have hns:=c.ns I1.o7;have J:bJ X pins σ H1 {s1 with toks:=s1.toks+1}:=I1.tok _;refine aR fun Pz pz=>?_;obtain⟨hp1,g1,d1,OH,Ri⟩:=s1;refine pz ?_;exact Pu (I1.o7 _ _ lC) hns (i7 I1.o7 hns c.ga) (i7 I1.o7 hns c.gt) (i7 I1.o7 hns n.own) n.base Rg hc (fun c' q=>by rw[hdat]at q;cases q) hxd Y9 hu (PySem.W.handedOut_of (BJ ru)) ⟨v,H1,J,ru,q⟩
def Wa(K:PySem.W.Frag)(ta tv:TE)(f:Str):TS:=fun D σ H=>tv σ H fun y H1=>ta σ H1 fun x H2=>∃a C N i,x=.ref a/\H2 a=some (wV a C none)/\wU K C N i/\XH K N f/\
 ∀d,H2 d=none->d≠a->D.nx σ (upd (upd H2 d (.xd (k7 f y []))) a (wV a C (some d)))
theorem PD{f:Str}{ta tv:TE}{o value:Expr}{pos':Pos}(ha:PE X o ta)(hv:PE X value tv)(hs:swapsWith value (some (.Attribute o f pos')) pos.line X.env=pure false):PS X (.Assign [.Attribute o f pos'] value pos) (Wa X.K ta tv f):=by
 intro pins s σ H D I h;refine plainObj_wpAny_Assign_Attribute (dI (hv pins s σ H _ I h) fun u s1 ⟨y,H1,I1,ry,q⟩=>dI (ha pins s1 σ H1 _ I1 q) fun ov s2 eT=>?_) hs;obtain⟨x,H2,I2,rx,a,C,N,i,ex,ea,c,n,q2⟩:=eT;subst ex;obtain rfl:ov=Value.ref a:=rx;refine aR fun Pz pz=>?_;obtain⟨nm,q',bs,sn,sub,ab,col,dd,k0,k1,k2,k3,k5,lC⟩:=c.obj;refine pz ?_;refine aR fun Pz pz=>?_;obtain⟨⟨t0,Rg⟩,_⟩:=I2.hok a _ ea;refine pz ?_;have hns:=c.ns I2.o7;have fr:=I2.hok.fresh (aq s2.heap.objs.size);have ne:s2.heap.objs.size≠a:=dz (aF Rg);refine aR fun Pz pz=>?_;obtain⟨hp1,g1,d1,OH,Ri⟩:=s2;refine pz ?_;refine Pr PySem.F.store_ValueError (I2.o7 _ _ lC) hns (i7 I2.o7 hns c.sa) (i7 I2.o7 hns n.own) n.base Rg rfl (fun c' z=>nomatch z) rfl fun h' tk' n1 x1 k1=>⟨σ,_,?_,q2 _ fr ne⟩
 have kp:∀b z,H2 b=some z->b≠hp1.objs.size:=fun b z e q=>by rw[q,fr]at e;cases e
 have ot:∀b z,H2 b=some z->(∀ψ,z≠.ext ψ)->upd (upd H2 hp1.objs.size (.xd (k7 f y []))) a (wV a C (some hp1.objs.size)) b=some z:=fun b z e m=>by
  have nb:b≠a:=fun q=>by rw[q,ea]at e;exact m _ (aQ e).symm
  rw[aI nb,aI (kp b z e)];exact e
 refine I2.un (t':=tk') (h':=h') ⟨fun b o e m _ _=>k1 b o (fun q=>by rw[q,ea]at m;cases m) e,fun b o e m _ _=>⟨o.slots,k1 b o (fun q=>by rw[q,ea]at m;cases m) e⟩,fun b o e m _=>?_,fun b o e _=>?_,fun b xs e=>ot b _ e (fun _=>nofun),fun b o u e=>ot b _ e (fun _=>nofun),fun b ps e=>⟨#[],by rw[ot b _ e (fun _=>nofun)];simp⟩⟩ fun b z e=>?_
 ·have e1:hp1.get? b=some o:=e;rw[aI (fun q=>by rw[q,ea]at m;cases m),aI (aT (aF e1))];exact m
 ·by_cases q:b=a
  ·rw[q];exact⟨_,x1⟩
  ·exact⟨o,k1 b o q e⟩
 ·by_cases qa:b=a
  ·subst qa;rw[aj]at e;cases e;exact IX x1
  ·rw[aI qa]at e;by_cases qd:b=hp1.objs.size
   ·subst qd;rw[aj]at e;cases e;refine⟨_,n1,fun g=>?_⟩;rw[qA];by_cases qg:g=f
    ·rw[aB qg,aB qg];exact ry
    ·rw[ao qg,ao qg];exact True.intro
   ·rw[aI qd]at e;refine(I2.hok b z e).stay (fun cc v hc qq=>k1 cc v ?_ qq) (fun cc qq=>ot cc _ qq (fun _=>nofun)) fun cc xs qq=>ot cc _ qq (fun _=>nofun);rcases hc with hc|hc
    ·rw[hc];exact qa
    ·intro qq;rw[qq,ea]at hc;cases hc
end
section
variable{M:Model}{A:Around}{E:Value->Shared->Prop}
variable{nm q nm' q':Str}{C N C' N':Addr}{bs bm bs' bm':List Value}{hdct Wb:Bool}{sn sn':List Str}{sub sub':List Value}{ab ab':Bool}{col col':Option Bool}{dd Bf:Option Addr}{k0 k1 k2 k3 k5 k0' k1' k2' k3' k5':Option Value}{newId newId':String}
theorem MT{h:Heap}{g:Array GenState}{d:Drawn}{t:Nat}{os:OsState}{e:Addr}{oe:Obj}{Q:Bool->Shared->Prop}
  (hC:h.get? C=some (excClassObj nm q C N bs bm hdct sn sub ab col dd k0 k1 k2 k3 k5 newId)) (hC':h.get? C'=some (excClassObj nm' q' C' N' bs' bm' Wb sn' sub' ab' col' Bf k0' k1' k2' k3' k5' newId'))
  (he:h.get? e=some oe) (hcls:oe.cls=.ref C) (hbase:bm'.contains (.type "BaseException")=true) (hno:bm.contains (.ref C')=false) (ne:C'≠C)
  (hq:Q false ⟨h,g,d,t,os⟩):wpAny M A (excMatches (.ref e) (.ref C')) Q E ⟨h,g,d,t,os⟩:=by
 have V8:(Value.ref C'::bm').contains (.type "BaseException")=true:=by rw[nu,hbase,Bool.or_true]
 have hcC:(Value.ref C::bm).contains (.ref C')=false:=by rw[nu,hno,g9];simp[ne]
 have f:=tc_notTuple;unfold excMatches
 repeat (first|(with_reducible refine bS he ?_;rw[hcls])|with_reducible refine bS hC' ?_|(with_reducible refine jg hC' ?_;rw[V8])|(with_reducible refine jg hC ?_;rw[hcC])|wp_step)
 exact hq
end
abbrev Cx.E5(X:Cx)(a:Addr):Cx:={X with A:=X.A.mark (some (.ref a)),calm:=false,xe:=fun _ _=>False}
abbrev Cx.MU(X:Cx)(Y:Value->Shared->Prop)(P:List (Addr×Obj)):Cx:={X with xe:=Y,pn:=P}
section
variable{X:Cx}{pins:List (Addr×Obj)}{σ:St}{H:Hp}{s:Shared}{a:Addr}{Y:Value->Shared->Prop}
theorem Cx.Ok.E5(ok:X.Ok)(a:Addr):(X.E5 a).Ok:=
 ⟨ok.mod,ok.kind,ok.glob,ok.blt,ok.above,ok.inj,ok.has,ok.RI,fun z=>Bool.noConfusion z,ok.frames,ok.stk,ok.UJ,ok.bs,ok.LD,ok.GA,ok.GB,ok.uP,ok.OR⟩
theorem bJ.E5(I:bJ X pins σ H s)(a:Addr):bJ (X.E5 a) pins σ H s:=⟨I.ok.E5 a,I.os,I.bare,I.base,I.loc,I.cell,I.free,I.jh,I.pin,I.hok,I.len⟩
theorem bJ.E6(ok:X.Ok)(I:bJ (X.E5 a) pins σ H s):bJ X pins σ H s:=⟨ok,I.os,I.bare,I.base,I.loc,I.cell,I.free,I.jh,I.pin,I.hok,I.len⟩
theorem Cx.Ok.MU(ok:X.Ok)(Y:Value->Shared->Prop)(P:List (Addr×Obj)):(X.MU Y P).Ok:=
 ⟨ok.mod,ok.kind,ok.glob,ok.blt,ok.above,ok.inj,ok.has,ok.RI,ok.hd,ok.frames,ok.stk,ok.UJ,ok.bs,ok.LD,ok.GA,ok.GB,ok.uP,ok.OR⟩
theorem bJ.MU(I:bJ X pins σ H s)(Y:Value->Shared->Prop):bJ (X.MU Y (X.pn++pins)) [] σ H s:=
 ⟨I.ok.MU Y _,I.os,I.bare,I.base,I.loc,I.cell,I.free,I.jh,fun p hp=>I.pin p (by simpa using hp),I.hok,I.len⟩
theorem bJ.E7{yR:List (Addr×Obj)}(ok:X.Ok)(I:bJ (X.MU Y (X.pn++pins)) yR σ H s):bJ X pins σ H s:=
 ⟨ok,I.os,I.bare,I.base,I.loc,I.cell,I.free,I.jh,fun p hp=>I.pin p (r6 _ hp),I.hok,I.len⟩
theorem OC.E7{yR:List (Addr×Obj)}(o:OC (X.MU Y (X.pn++pins)) yR a):OC X pins a:=⟨o.sz,o.loc,o.Y7,fun p hp=>o.pin p (r6 _ hp)⟩
end
structure SY (X:Cx) (pins:List (Addr×Obj)) (σ:St) (H:Hp) (s:Shared) (a:Addr) (cls:Value) (xd:Option Addr) (T:Addr):Prop where
 inv:bJ X pins σ H s
 exc:Ik s.heap a cls xd (.ref T)
 trb:Lw s.heap T .none
 ne:T≠a
 PF:OC X pins a
 Pq:OC X pins T
 frA:H a=none
 XF:H T=none
abbrev PL:=Value->Option Addr->wj->St->Hp->Prop
def PH(X:Cx)(hs:List ExceptHandler)(th:PL):Prop:=
 ∀(pins:List (Addr×Obj)) (s:Shared) (σ:St) (H:Hp) (D:wj) (a:Addr) (cls:Value) (xd:Option Addr) (T:Addr),SY X pins σ H s a cls xd T->th cls xd D σ H->
  wpAny (model X.prog X.w) X.A (handleBy (.ref a) X.env hs) (SP X pins D) X.xe s
def Za(Eb:XK)(tb:TS)(th:PL):TS:=fun D σ H=>tb D σ H/\∀cls xd H' σ',σ'.length=σ.length->Eb cls xd H'->th cls xd D σ' H'
section
variable{X:Cx}{body:List Stmt}{h0:ExceptHandler}{hs:List ExceptHandler}{pos:Pos}{tb:TS}{th:PL}
theorem Hu(Eb:XK)(hst:X.stack=X.env::X.outer)(hf:X.env.frame=some X.env.locals)
  (hb:∀(Y:Value->Shared->Prop) (P:List (Addr×Obj)),Hr (X.MU Y P) Eb->PassesOwn (model X.prog X.w) X.A X.env Y->Ek (X.MU Y P) body tb) (hh:PH X (h0::hs) th):
  PS X (.Try body (h0::hs) [] [] pos) (Za Eb tb th):=by
 intro pins s σ H D I h;obtain⟨h1,h2⟩:=h;refine wpAny_Try_except ?_;have hx:Hr (X.MU (fun e s₁=>wpAny (model X.prog X.w) X.A (noteFrame e X.env) (fun _ s₂=>wpAny (model X.prog X.w) X.A (setFlight e none) (fun _ s₃=>wpAny (model X.prog X.w) X.A (handleBy e X.env (h0::hs)) (SP X pins D) X.xe s₃) X.xe s₂) X.xe s₁) (X.pn++pins)) Eb:=by
  intro yR σ' H' s' a cls xd F hE;have F':IU X pins σ' H' s' a cls xd:=⟨F.inv.E7 I.ok,F.off.E7,F.free,F.exc.imp (fun z=>z) fun⟨T,z1,z2,z3,z4,z5⟩=>⟨T,z1,z2,z3,z4.E7,z5⟩⟩
  refine F'.noted hst hf fun s2 T I2 x2 t2 n2 o2 f2=>?_;refine I2.landed x2 t2 n2 o2 f2 fun s3 I3 x3 t3=>?_;exact hh pins s3 σ' H' D a cls xd T ⟨I3,x3,t3,n2,F'.off,o2,F'.free,f2⟩ (h2 cls xd H' σ' (F.inv.len.trans I.len.symm) hE)
 refine di (hb _ _ hx PassesOwn.looking [] s σ H D (I.MU _) h1) (fun f s1 hf1=>?_) fun e s1 he=>he;cases f with
 |next=>
  obtain⟨σ',H',J,q⟩:=hf1;exact uL ⟨σ',H',J.E7 I.ok,q⟩
 |brk=>
  obtain⟨σ',H',J,q⟩:=hf1;exact⟨σ',H',J.E7 I.ok,q⟩
 |cont=>
  obtain⟨σ',H',J,q⟩:=hf1;exact⟨σ',H',J.E7 I.ok,q⟩
 |ret u=>
  obtain⟨v,σ',H',J,r,q⟩:=hf1;exact⟨v,σ',H',J.E7 I.ok,r,q⟩
end
section
variable{X:Cx}{x n:Str}{C N:Addr}{i:Option Value}{np hpos:Pos}{b0:Stmt}{suite:List Stmt}{rest:List ExceptHandler}{ts:TS}{th:PL}{name:Option Str}{body:List Stmt}{j:Nat}
def Wc(K:PySem.W.Frag)(C:Addr)(th:PL):PL:=fun cls xd D σ H=>(∃C' N' i',cls=.ref C'/\wU K C' N' i'/\C≠C')/\th cls xd D σ H
theorem I0(c:wU X.K C N i)(hg:Gl X x)(hm:X.mg x=some (.ref C))(hr:PH X rest th)(hdb:(x==("__debug__" :Str))=false:=by decide):
  PH X (.ExceptHandler (some (.Name x np)) name body hpos::rest) (Wc X.K C th):=by
 intro pins s σ H D a cls xd T G h;obtain⟨⟨C',N',i',rfl,c',ne⟩,h⟩:=h;obtain⟨nm,q,bs,sn,sub,ab,col,dd,k0,k1,k2,k3,k5,lC⟩:=c.obj;obtain⟨nm',q',bs',sn',sub',ab',col',Bf,k0',k1',k2',k3',k5',lC'⟩:=c'.obj;have I:=G.inv;obtain⟨oe,vs,he,hc,_⟩:=id G.exc;refine LB (Gy (lT (X:=X.E5 a) (I.E5 a) hg hm ?_ hdb)) (by intro z;cases z);obtain⟨hp1,g1,d1,OH,Ri⟩:=s;refine MT (I.o7 _ _ lC') (I.o7 _ _ lC) he hc (by decide) (by rfl) ne ?_;exact hr pins _ σ H D a _ xd T G h
def Zb(C:Addr)(ts:TS):PL:=fun cls xd D σ H=>cls=.ref C/\ts D σ H
theorem MV(c:wU X.K C N i)(hg:Gl X x)(hm:X.mg x=some (.ref C))(hs:∀a,Ek (X.E5 a) (b0::suite) ts)(hdb:(x==("__debug__" :Str))=false:=by decide):
  PH X (.ExceptHandler (some (.Name x np)) none (b0::suite) hpos::rest) (Zb C ts):=by
 intro pins s σ H D a cls xd T G h;obtain⟨rfl,h⟩:=h;obtain⟨nm,q,bs,sn,sub,ab,col,dd,k0,k1,k2,k3,k5,lC⟩:=c.obj;have I:=G.inv;obtain⟨oe,vs,he,hc,_⟩:=id G.exc;refine LB (Gy (lT (X:=X.E5 a) (I.E5 a) hg hm ?_ hdb)) (by intro z;cases z);have Zc:codeAny (model X.prog X.w) (X.A.mark (some (.ref a))) (.handlers (.ref a) [.ExceptHandler none none (b0::suite) hpos] X.env) (fun r s₂=>match r with
     | .ok f=>SP X pins D f s₂
     | .error y=>cameBackBy (model X.prog X.w) X.A X.env X.xe y s₂) s:=by
  refine codeAny_handlers_suite (I.landed G.exc G.trb G.ne G.Pq G.XF fun s2 I2 x2 t2=>?_);refine di (hs a pins s2 σ H D (I2.E5 a) h) (fun f s3 hf=>?_) fun e s3 he=>False.elim he;cases f with
  |next=>obtain⟨σ',H',J,q⟩:=hf;exact⟨σ',H',J.E6 I.ok,q⟩
  |brk=>obtain⟨σ',H',J,q⟩:=hf;exact⟨σ',H',J.E6 I.ok,q⟩
  |cont=>obtain⟨σ',H',J,q⟩:=hf;exact⟨σ',H',J.E6 I.ok,q⟩
  |ret u=>obtain⟨v,σ',H',J,r,q⟩:=hf;exact⟨v,σ',H',J.E6 I.ok,r,q⟩
 obtain⟨hp1,g1,d1,OH,Ri⟩:=s;exact wpAny_excMatches_sub_self (I.o7 _ _ lC) he hc (by decide) Zc
theorem bJ.drop{pins:List (Addr×Obj)}{σ:St}{H:Hp}{s:Shared}{A:Around}{E:Value->Shared->Prop}{Q:Unit->Shared->Prop}{M:Model}(I:bJ X pins σ H s)(hN:X.N.Nodup)(hj:X.N[j]? =some n)(hl:X.env.scope.names.lookup n=some .local)
  (h:∀s',bJ X pins (σ.set j none) H s'->Q () s'):wpAny M A (do bindName X.env n .none;unbindBehindTheSuite X.env n hpos) Q E s:=by
 refine aa (wpAny_bindName (qu (v:=.dY) I hN hj (.inl hl) rfl (fun s1 I1=>?_) (.inr hl)));unfold unbindBehindTheSuite;refine OE ?_;obtain⟨m,hn,hlk⟩:=id I1.loc;have hjl:j<σ.length:=by rw[I.len];exact(List.getElem?_eq_some_iff.mp hj).1
 obtain⟨u,ru,look⟩:=hlk j n .dY hj (jw hjl) (.inl hl);have hv:m n=some u:=by
  rcases look with⟨_,z⟩|⟨z,_⟩
  ·exact z
  ·have z':X.env.scope.names.lookup n=some .cell\/X.env.scope.names.lookup n=some .free:=z;rw[hl]at z';rcases z' with z'|z'<;>cases z'
 have hcls:(X.env.scope.kind==.class||(X.env.scope.kind==.module&&X.env.locals != X.env.globals))=false:=by rw[I.ok.kind];rfl
 refine wpAny_unbindName_local hl hn hv hcls fun h' u' hn' hs=>?_;obtain⟨oL,_,_,UK,_⟩:=id hn;refine h _ ⟨I1.ok,I1.os,I1.bare,⟨fun b o e n hb hx=>?_,fun b o e n hb hx=>?_,I1.base.free,fun b o e hx=>?_,I1.base.tups,I1.base.uO,I1.base.yg⟩,⟨_,hn',fun k y v' e1 e2 e3=>?_⟩,fun y c e=>?_,I1.free,I1.jh,fun p hp=>?_,fun b ob e=>?_,by rw[List.length_set];exact I.len⟩
 ·exact(hs.2 b (aT (br (aF e) I1.ok.above))).trans (I1.base.keep b o e n hb hx)
 ·obtain⟨sl,e1⟩:=I1.base.slot b o e n hb hx;exact⟨sl,(hs.2 b (aT (br (aF e) I1.ok.above))).trans e1⟩
 ·obtain⟨o',e1⟩:=I1.base.there b o e hx;exact⟨o',(hs.2 b (aT (br (aF e) I1.ok.above))).trans e1⟩
 ·have hk:k≠j:=fun z=>by rw[z,jw hjl]at e2;cases e2
  rw[kY (bP hk)]at e2;obtain⟨u2,r2,q2⟩:=hlk k y v' e1 (by rw[kY (bP hk)];exact e2) e3;refine⟨u2,r2,?_⟩;rcases q2 with⟨kk,e⟩|⟨kk,c,e,z⟩
  ·refine .inl ⟨kk,?_⟩;have:y≠n:=fun e=>hk (uQ hN e1 (e ▸ hj));simp[this,e]
  ·exact .inr ⟨kk,c,e,z.sameBut hs (I1.OS y c e)⟩
 ·obtain⟨w',z⟩:=I1.cell y c e;exact⟨w',z.sameBut hs (I1.OS y c e)⟩
 ·obtain⟨e,n,ne,nf,d⟩:=I1.pin p hp;exact⟨(hs.2 p.1 ne).trans e,n,ne,nf,d⟩
 ·refine(I1.hok b ob e).stay (fun c w' hc q=>(hs.2 c ?_).trans q) (fun _ q=>q) fun _ _ q=>q;rintro rfl;rcases hc with hc|hc
  ·rw[<- hc,I1.free]at e;cases e
  ·rw[I1.free]at hc;cases hc
def S0(C:Addr)(j:Nat)(ts:TS):PL:=fun cls xd D σ H=>cls=.ref C/\∀a,H a=none->
 ts {nx:=fun σ' H'=>D.nx (σ'.set j none) H',rt:=D.rt,bk:=fun σ' H'=>D.bk (σ'.set j none) H',ct:=fun σ' H'=>D.ct (σ'.set j none) H'} (σ.set j (some (.ref a))) (upd H a (C8 a C xd))
theorem zR(c:wU X.K C N i)(hg:Gl X x)(hm:X.mg x=some (.ref C))(hN:X.N.Nodup)(hj:X.N[j]? =some n)(hl:X.env.scope.names.lookup n=some .local)(hs:∀a,Ek (X.E5 a) (b0::suite) ts)(hdb:(x==("__debug__" :Str))=false:=by decide):
  PH X (.ExceptHandler (some (.Name x np)) (some n) (b0::suite) hpos::rest) (S0 C j ts):=by
 intro pins s σ H D a cls xd T G h;obtain⟨rfl,h⟩:=h;have h:=h a G.frA;obtain⟨nm,q,bs,sn,sub,ab,col,dd,k0,k1,k2,k3,k5,lC⟩:=c.obj;have I:=G.inv;obtain⟨oe,vs,he,hc,_⟩:=id G.exc;refine LB (Gy (lT (X:=X.E5 a) (I.E5 a) hg hm ?_ hdb)) (by intro z;cases z);have Zc:codeAny (model X.prog X.w) (X.A.mark (some (.ref a))) (.handlers (.ref a) [.ExceptHandler none (some n) (b0::suite) hpos] X.env) (fun r s₂=>match r with
     | .ok f=>wpAny (model X.prog X.w) X.A (do bindName X.env n .none;unbindBehindTheSuite X.env n hpos) (fun _ s₃=>SP X pins D f s₃) X.xe s₂
     | .error y=>cameBackBy (model X.prog X.w) X.A X.env X.xe y s₂) s:=by
  refine codeAny_handlers_suite_as (I.landed G.exc G.trb G.ne G.Pq G.XF fun s2 I2 x2 t2=>?_);obtain⟨oe2,Zd,ER,hc2,XG,hd2,_⟩:=id x2;have I3:bJ X pins σ (upd H a (C8 a C xd)) s2:=by
   have Xv:a≠X.env.locals:=G.PF.loc;have np:∀b,H b=none->b≠a->upd H a (C8 a C xd) b=none:=fun b e n=>by rw[aI n];exact e
   have tr:∀b u,H b=some u->upd H a (C8 a C xd) b=some u:=fun b u e=>by rw[aI (aS e G.frA)];exact e
   refine⟨I2.ok,I2.os,I2.bare,⟨I2.base.keep,I2.base.slot,fun b o e m hx=>np b (I2.base.free b o e m hx) ?_,I2.base.there,fun b xs e=>tr _ _ (I2.base.tups b xs e),fun b o u e=>tr _ _ (I2.base.uO b o u e),fun b ps e=>?_⟩,
    I2.loc,I2.cell,np _ I2.free (bP Xv),fun y cc e=>np _ (I2.jh y cc e) (G.PF.Y7 y cc e),fun p hp=>?_,fun b u e=>?_,I2.len⟩
   ·exact aT (br (aF e) G.PF.sz)
   ·obtain⟨m,z⟩:=I2.base.yg b ps e;exact⟨m,tr _ _ z⟩
   ·obtain⟨e,m,r⟩:=I2.pin p hp;exact⟨e,np _ m (G.PF.pin p hp),r⟩
   ·by_cases q:b=a
    ·subst q;rw[aj]at e;cases e;exact Py ER hc2 XG hd2
    ·rw[aI q]at e;exact(I2.hok b u e).stay (fun _ _ _ z=>z) (fun cc z=>tr _ _ z) fun cc xs z=>tr _ _ z
  refine qu (v:=.ref a) (X:=X.E5 a) (I3.E5 a) hN hj (.inl hl) rfl (fun s4 I4=>?_) (.inr hl);refine di (hs a pins s4 _ _ _ I4 h) (fun f s5 hf=>?_) fun e s5 he=>False.elim he;cases f with
  |next=>
   obtain⟨σ',H',J,q⟩:=hf;exact(J.E6 I.ok).drop hN hj hl fun s6 I6=>⟨_,H',I6,q⟩
  |brk=>
   obtain⟨σ',H',J,q⟩:=hf;exact(J.E6 I.ok).drop hN hj hl fun s6 I6=>⟨_,H',I6,q⟩
  |cont=>
   obtain⟨σ',H',J,q⟩:=hf;exact(J.E6 I.ok).drop hN hj hl fun s6 I6=>⟨_,H',I6,q⟩
  |ret u=>
   obtain⟨v,σ',H',J,r,q⟩:=hf;exact(J.E6 I.ok).drop hN hj hl fun s6 I6=>⟨v,_,H',I6,r,q⟩
 obtain⟨hp1,g1,d1,OH,Ri⟩:=s;exact wpAny_excMatches_sub_self (I.o7 _ _ lC) he hc (by decide) Zc
end
end L2
namespace Gz
open Vbptan
def dig(c:Nat):Bool:=decide (48<=c/\c<=57)
def isNum(w:Bytes):Bool:=decide (1<=w.length/\w.length<=6)&&(w.all dig&&decide (w.length=1\/w.headD 0≠48))
def Kz(w:Bytes):Int:=w.foldl (fun(n:Int) (c:Nat)=>n*10+(c:Int)-48) 0
def qm(w:Bytes):Nat:=w.foldl (fun n c=>10*n+(c-48)) 0
theorem MW:∀(w:Bytes) (n:Nat),w.all dig=true->w.foldl (fun(n:Int) (c:Nat)=>n*10+(c:Int)-48) (n:Int)=((w.foldl (fun n c=>10*n+(c-48)) n:Nat):Int)
 |[],_,_=>rfl
 |c::w,n,h=>by
  rw[ni,bB]at h;have hc:48<=c/\c<=57:=aH h.1;have e:(n:Int)*10+(c:Int)-48=((10*n+(c-48):Nat):Int):=by omega
  rw[List.foldl_cons,List.foldl_cons,e];exact MW w _ h.2
theorem PM{w:Bytes}(h:isNum w=true):Kz w=((qm w:Nat):Int):=by
 unfold isNum at h;rw[bB,bB]at h;exact MW w 0 h.2.1
theorem kK(lo hi:Nat)(w:Bytes):numberOf lo hi w=if isNum w=true/\lo<=qm w/\qm w<=hi then some (qm w)else none:=by
 unfold numberOf;show(if 1<=w.length/\w.length<=6/\w.all (fun c=>decide (48<=c/\c<=57))=true/\(w.length=1\/w.headD 0≠48)/\lo<=qm w/\qm w<=hi then some (qm w)else none)=_;have e:(1<=w.length/\w.length<=6/\w.all (fun c=>decide (48<=c/\c<=57))=true/\(w.length=1\/w.headD 0≠48)/\lo<=qm w/\qm w<=hi)↔(isNum w=true/\lo<=qm w/\qm w<=hi):=by
  unfold isNum;rw[bB,bB,aZ,aZ];show _↔((1<=w.length/\w.length<=6)/\w.all (fun c=>decide (48<=c/\c<=57))=true/\_)/\_;constructor
  ·rintro ⟨a,b,c,d,f,g⟩;exact⟨⟨⟨a,b⟩,c,d⟩,f,g⟩
  ·rintro ⟨⟨⟨a,b⟩,c,d⟩,f,g⟩;exact⟨a,b,c,d,f,g⟩
 by_cases h:isNum w=true/\lo<=qm w/\qm w<=hi
 ·rw[aB h,aB (e.mpr h)]
 ·rw[ao h,ao fun q=>h (e.mp q)]
def glue(s:Nat)(w:Bytes):List Word->List Word
 |[]=>[(s,w)]
 |(_,v)::l=>(s,w++v)::l
theorem zS(p:Nat)(t:Bytes):cut p t≠[]:=by
 cases t with
 |nil=>intro h;cases h
 |cons c r=>
  unfold cut;by_cases h1:c=32
  ·rw[aB h1];intro h;cases h
  ·rw[ao h1];by_cases h2:c=10
   ·rw[aB h2];intro h;cases h
   ·rw[ao h2];cases cut (p+1) r with
    |nil=>intro h;cases h
    |cons x l=>intro h;cases h
theorem l5(p:Nat)(r:Bytes):cut p (32::r)=(p,[])::cut (p+1) r:=by
 rw[cut,aB rfl]
theorem wW(p:Nat)(r:Bytes):cut p (10::r)=(p,[])::(p,[10])::cut (p+1) r:=by
 rw[cut,ao (by decide),aB rfl]
theorem l6{p c:Nat}{r:Bytes}(h1:c≠32)(h2:c≠10):cut p (c::r)=glue p [c] (cut (p+1) r):=by
 rw[cut,ao h1,ao h2];cases cut (p+1) r with
 |nil=>rfl
 |cons x l=>obtain⟨q,v⟩:=x;rfl
theorem vn(p:Nat)(t:Bytes):∃v l,cut p t=(p,v)::l:=by
 cases t with
 |nil=>exact⟨_,_,rfl⟩
 |cons c r=>
  by_cases h1:c=32
  ·subst h1;exact⟨_,_,l5 p r⟩
  ·by_cases h2:c=10
   ·subst h2;exact⟨_,_,wW p r⟩
   ·rw[l6 h1 h2];cases cut (p+1) r with
    |nil=>exact⟨_,_,rfl⟩
    |cons x l=>exact⟨_,_,rfl⟩
theorem zT(p:Nat)(t:Bytes):glue p [] (cut p t)=cut p t:=by
 obtain⟨v,l,e⟩:=vn p t;rw[e];rfl
theorem KA(s q:Nat)(w:Bytes)(c:Nat)(l:List Word):glue s w (glue q [c] l)=glue s (w++[c]) l:=by
 cases l with
 |nil=>rfl
 |cons x l=>obtain⟨p,v⟩:=x;show(s,w++([c]++v))::l=(s,w++[c]++v)::l;rw[bw]
structure gf (t:Bytes) (i:Nat) (ws:List Word) (s:Nat):Prop where
 le:s<=i
 eq:ws++glue s ((t.drop s).take (i-s)) (cut i (t.drop i))=cut 0 t
theorem gf.start(t:Bytes):gf t 0 [] 0:=⟨aq _,by
 show glue 0 ((t.drop 0).take 0) (cut 0 (t.drop 0))=_;rw[wm,oZ,zT]⟩
theorem xy{t:Bytes}{i c:Nat}(h:t[i]? =some c):t.drop i=c::t.drop (i+1):=by
 obtain⟨hi,e⟩:=List.getElem?_eq_some_iff.mp h;rw[dX hi,e]
theorem MX{t:Bytes}{i c s:Nat}(h:t[i]? =some c)(hs:s<=i):(t.drop s).take (i+1-s)=(t.drop s).take (i-s)++[c]:=by
 have e:i+1-s=(i-s)+1:=by omega
 have h':(t.drop s)[i-s]? =some c:=by rw[List.getElem?_drop];rw[show s+(i-s)=i by omega];exact h
 rw[e,kU,h'];rfl
theorem gf.other{t:Bytes}{i c s:Nat}{ws:List Word}(C:gf t i ws s)(h:t[i]? =some c)(h1:c≠32)(h2:c≠10):gf t (i+1) ws s:=⟨nV C.le,by
 have e:=C.eq;rw[xy h,l6 h1 h2,KA]at e;rw[MX h C.le];exact e⟩
theorem gf.blank{t:Bytes}{i s:Nat}{ws:List Word}(C:gf t i ws s)(h:t[i]? =some 32):gf t (i+1) (ws++[(s,(t.drop s).take (i-s))]) (i+1):=⟨aq _,by
 have e:=C.eq;rw[xy h,l5]at e;rw[yO,wm,zT,bw];rw[<- e];show _=ws++((s,(t.drop s).take (i-s)++[])::_);rw[bq];rfl⟩
theorem gf.line{t:Bytes}{i s:Nat}{ws:List Word}(C:gf t i ws s)(h:t[i]? =some 10):gf t (i+1) (ws++[(s,(t.drop s).take (i-s)),(i,[10])]) (i+1):=⟨aq _,by
 have e:=C.eq;rw[xy h,wW]at e;rw[yO,wm,zT,bw];rw[<- e];show _=ws++((s,(t.drop s).take (i-s)++[])::_);rw[bq];rfl⟩
theorem gf.fin{t:Bytes}{s:Nat}{ws:List Word}(C:gf t t.length ws s):ws++[(s,t.drop s)]=cut 0 t:=by
 have e:=C.eq;rw[lA]at e;have e2:(t.drop s).take (t.length-s)=t.drop s:=bN (by rw[iW];exact aq _);rw[e2]at e;rw[<- e];show _=ws++[(s,t.drop s++[])];rw[bq]
theorem Ja:∀(p:Nat) (t:Bytes),(cut p t).length<=2*t.length+1
 |p,[]=>aq _
 |p,c::r=>by
  have ih:=Ja (p+1) r;by_cases h1:c=32
  ·subst h1;rw[l5];simp only[az];omega
  ·by_cases h2:c=10
   ·subst h2;rw[wW];simp only[az];omega
   ·rw[l6 h1 h2];cases e:cut (p+1) r with
    |nil=>exact absurd e (zS _ _)
    |cons x l=>
     rw[e]at ih;show((p,[c]++x.2)::l).length<=_;simp only[az]at ih ⊢;omega
end Gz
namespace Gz
open PySem PySem.Spec PyProof.Rows L2
def top(i:Nat):Stmt:=PySem.Challenge.pw_issuerolls_s01_answers.main.body.getD i (.Pass ⟨0,0,0,0⟩)
abbrev vp:Stmt:=top 20
abbrev B9:Stmt:=top 21
abbrev Ca:Stmt:=top 22
abbrev E8:Stmt:=top 23
abbrev E9:Stmt:=top 19
structure Bn (mg:Str->Option Value):Prop where
 len:mg "len"=none
 Wd:mg "all"=none
 We:mg "any"=none
 Ze:mg "ord"=none
 enum:mg "enumerate"=none
 Zf:mg "sum"=none
 S1:mg "max"=none
 vq:mg "sorted"=none
 KC:mg "reversed"=none
 S2:mg "range"=none
 Zg:mg "zip"=none
 Wf:mg "dict"=none
def GI(mg:Str->Option Value)(x:Str)(i:Int):Prop:=∃t,mg x=some (.int i t)
structure Cn (mg:Str->Option Value):Prop where
 blank:GI mg "BLANK" 32
 lend:GI mg "LINE_END" 10
 d0:GI mg "DIGIT_0" 48
 d9:GI mg "DIGIT_9" 57
 la:GI mg "LETTER_A" 97
 lz:GI mg "LETTER_Z" 122
 md:GI mg "MOST_DIGITS" 6
 mv:GI mg "MOST_VALUE_BYTES" 12
section
variable{X:Cx}
theorem dS{x:Str}{i:Int}{pos:Pos}(h:GI X.mg x i)(hg:Gl X x:=by rfl)(hd:(x==("__debug__" :Str))=false:=by decide):PE X (.Name x pos) (tC (.int i)):=by
 obtain⟨t,h⟩:=h;exact Io hg h ⟨t,rfl⟩ hd
theorem fX{e:Expr}{te:TE}{p pos:Pos}(b:Bn X.mg)(he:PE X e te)(hg:Gl X "len":=by rfl)(hs:starEach [e] X.env=(false,eval e X.env)::starEach [] X.env:=by rfl):
  PE X (.Call (.Name "len" p) [e] [] pos) (Vo (fun xs H Q=>∃p ys,xs=[.ref p]/\(cI X.K H p ys\/lD X.K H p ys)/\Q (.int ys.length) H) (cE te fW)):=
 eU CW hg b.len uc (ah he aA hs) (by decide) (by decide) hs rfl
end
abbrev zs(w:List Nat):List V:=w.map fun c:Nat=>V.int (c:Int)
theorem cF(w:List Nat):(zs w).length=w.length:=ai ..
theorem xE{w:List Nat}{i:Nat}{x:V}(h:(zs w)[i]? =some x):∃c,w[i]? =some c/\x=.int (c:Int):=by
 rw[bf]at h;cases e:w[i]? with
 |none=>rw[e]at h;cases h
 |some c=>rw[e]at h;exact⟨c,rfl,(aQ h).symm⟩
section
variable{P:Program}{w:World}{K:PySem.W.Frag}{mg:Str->Option Value}{base:Heap}
def yz:Sp:=fun vs H Q _=>∃c:Nat,vs=[.int (c:Int)]/\Q (.bl (dig c)) H
theorem PN:bh ["byte"] ["byte"] (aN vp):=⟨rfl,rfl,rfl,by decide +kernel,rfl,by decide +kernel,by decide +kernel⟩
theorem Fb{f:Addr}{fd:FuncData}(F:A9 K "is_digit" "is_digit" vp f fd)(c:Cn mg):jz P w K mg base ig 1 f fd ["byte"] yz:=by
 refine F.ok PN (fun vs H Q E h=>?_) (fun cdv A outer s H vs Q E hr h=>?_)
 ·obtain⟨x,rfl,_⟩:=h;rfl
 ·obtain⟨x,rfl,k⟩:=h;refine⟨_,aD (aW (yY ny ny (dS c.d0) (pv 0) (dS c.d9))),?_⟩;refine⟨_,rfl,_,_,rfl,rfl,_,rfl,?_⟩;have e:dig x=(decide ((48:Int)<=(x:Int))&&decide ((x:Int)<=57)):=by
   unfold dig;rw[cR,aZ,bB,aZ,aZ];omega
  rw[e]at k;refine gm (fun h1=>?_) (fun h1=>?_)
  ·refine⟨_,_,rfl,rfl,?_⟩;rw[h1]at k;exact k
  ·rw[Bool.eq_false_iff.mpr h1]at k;exact k
def Fc(K:PySem.W.Frag):Sp:=fun vs H Q _=>∃(a:Addr) (w:List Nat),vs=[.ref a]/\cI K H a (zs w)/\w.length<=2000/\∀H',bF H H'->Q (.bl (isNum w)) H'
theorem zU:bh ["word","byte"] ["word"] (aN B9):=⟨rfl,rfl,rfl,by decide +kernel,rfl,by decide +kernel,by decide +kernel⟩
theorem KD{f fD:Addr}{fd PR:FuncData}(F:A9 K "is_number" "is_number" B9 f fd)(c:Cn mg)(b:Bn mg)(FD:A9 K "is_digit" "is_digit" vp fD PR)(bD:jn K PR ["byte"] [])(mD:mg "is_digit"=some (.ref fD)):
  jz P w K mg base ig 2 f fd ["word"] (Fc K):=by
 have GD:jz P w K mg base ig 1 fD PR ["byte"] yz:=Fb FD c;refine F.ok zU (fun vs H Q E h=>?_) (fun cdv A outer s H vs Q E hr h=>?_)
 ·obtain⟨a,w,rfl,_⟩:=h;rfl
 ·obtain⟨a,w,rfl,hS,hl,k⟩:=h;refine⟨_,ay (b7 (PW.pt (BI (bz yV (fX b (pv 0)) aY (bM _)) (wB (bz yW (fX b (pv 0)) (dS c.md) (bM _))))) (aD (aW mj)) bC)
   (ay (b7 (PW.pt (nX (bz yW (fX b (pv 0)) aY (bM _)) (nv (bz gk (fJ gR (pv 0) aY (fun _ _=>rfl)) (dS c.d0) (bM _))))) (aD (aW mj)) bC)
   (aD (aW (eU (L5 rfl) rfl b.Wd PyProof.Rows.Boot.«all» (ah (oB (own:=[("byte",1)]) rfl zU.nd (fG (pv 0)) (fM (by kernel_rfl)) (fun _ _ _ _ _=>b8 (i:=1) zU.nd rfl (Or.inl rfl)) (fun _ _ _ _ _=>lU)
    (fun _ _ _ _ _=>CT GD hr rfl mD FD.kp bD .nil bx (ah (pv 1) aA))) aA))))),?_⟩
  have ln:(zs w).length=w.length:=cF w;have no:(¬(1<=w.length/\w.length<=6))->isNum w=false:=fun h=>by unfold isNum;rw[aK h,jX]
  refine⟨_,rfl,a,_,rfl,.inl hS,_,_,rfl,rfl,_,rfl,?_⟩;refine gm (fun h1=>?_) (fun h1=>?_)
  ·refine cW ?_;have q:=no (fun z=>by have:=aH h1;rw[ln]at this;omega);rw[q]at k;exact k H (bF.refl H)
  ·refine⟨_,rfl,a,_,rfl,.inl hS,_,_,rfl,rfl,_,rfl,?_⟩;refine gm (fun h2=>?_) (fun h2=>?_)
   ·have q:=no (fun z=>by have:=aH h2;rw[ln]at this;omega);rw[q]at k;exact k H (bF.refl H)
   ·have l1:1<=w.length/\w.length<=6:=by
     have e1:¬((zs w).length:Int)<1:=fun z=>h1 (aC z);have e2:¬(6:Int)<((zs w).length:Int):=fun z=>h2 (aC z);rw[ln]at e1 e2;omega
    obtain⟨d,r,rfl⟩:∃d r,w=d::r:=by
     cases w with
     |nil=>exact absurd l1.1 (by decide)
     |cons d r=>exact⟨d,r,rfl⟩
    have key:isNum (d::r)=((d::r).all dig&&decide ((d::r).length=1\/d≠48)):=by
     unfold isNum;rw[aC l1,g8];rfl
    have goal:∀H1,bF H H1->(¬((d::r).length=1\/d≠48)->Q (.bl false) H1):=fun H1 sm hz=>by
     have:=k H1 sm;rw[key,aK hz,Bool.and_false]at this;exact this
    have tail:((d::r).length=1\/d≠48)->(sW (Vo (Vs K) (cE (UO (QY K (cT 0)) (uS 1) Vu (lF yz [] E0 (cE (cT 1) fW)) [1]) fW))) {nx:=fun _ H'=>Q .dY H',rt:=Q} [some (.ref a),none] H:=fun hz=>by
     refine⟨_,rfl,a,rfl,⟨_,hS⟩,fun D hD=>?_⟩;have sm:bF H (upd H D (.lst [])):=fun b o e=>by rw[aI (aS e hD)];exact e
     refine jA (K:=K) (a:=a) (xs:=zs (d::r)) (fun i H'=>bF H H'/\H' D=some (.lst (((d::r).take i).map fun x=>V.bl (dig x)))) ⟨sm,aj⟩ (fun i H' _ ⟨z,_⟩=>z.seq hS) (fun i x H' hi ⟨z1,z2⟩=>?_) (fun H' ⟨z1,z2⟩=>?_)
     ·obtain⟨y,hy,rfl⟩:=xE hi;refine⟨rfl,_,rfl,y,rfl,_,z2,?_,fun b o e=>?_,?_⟩
      ·rw[ai,b4];exact cM (Nat.min_le_right _ _) (wN (by omega))
      ·rw[aI (aS e hD)];exact z1 b o e
      ·have e2:(d::r).take (i+1)=(d::r).take i++[y]:=by rw[kU,hy];rfl
       rw[aj,e2,aX];rfl
     ·rw[cF,bL]at z2;have e2:((d::r).map fun x=>V.bl (dig x))=((d::r).map dig).map V.bl:=by rw[cX];rfl
      rw[e2]at z2;refine⟨D,_,rfl,cI.of z2,?_⟩;have:=k H' z1;rw[key,aC hz,Bool.and_true]at this;have e3:((d::r).map dig).all id=(d::r).all dig:=by rw[List.all_map];rfl
      rw[e3];exact this
    refine⟨_,rfl,a,_,rfl,.inl hS,_,_,rfl,rfl,_,rfl,?_⟩;refine gm (fun h3=>?_) (fun h3=>?_)
    ·refine⟨_,rfl,a,_,_,_,rfl,rfl,hS,cB (j:=0) (v:=.int (d:Int)) rfl,rfl,_,rfl,?_⟩;refine gm (fun h4=>?_) (fun h4=>?_)
     ·have e4:V.int (d:Int)=V.int 48:=aH h4;injection e4 with e4
      have e3:=aH h3;rw[ln]at e3;exact goal H (bF.refl H) (by omega)
     ·exact tail (.inr fun z=>h4 (aC (by rw[z];rfl)))
    ·exact tail (.inl (by have e3:¬(1:Int)<((zs (d::r)).length:Int):=fun z=>h3 (aC z);rw[ln]at e3;omega))
def Dc(K:PySem.W.Frag):Sp:=fun vs H Q _=>∃(a:Addr) (w:List Nat),vs=[.ref a]/\cI K H a (zs w)/\Q (.int (Kz w)) H
theorem yC:bh ["word","total","byte"] ["word"] (aN Ca):=⟨rfl,rfl,rfl,by decide +kernel,rfl,by decide +kernel,by decide +kernel⟩
theorem KG{w:List Nat}{i c:Nat}(h:w[i]? =some c):Kz (w.take (i+1))=Kz (w.take i)*10+(c:Int)-48:=by
 have e:w.take (i+1)=w.take i++[c]:=by rw[kU,h];rfl
 unfold Kz;rw[e,List.foldl_append];rfl
theorem MY{f:Addr}{fd:FuncData}(F:A9 K "number_of" "number_of" Ca f fd)(c:Cn mg):jz P w K mg base ig 1 f fd ["word"] (Dc K):=by
 refine F.ok yC (fun vs H Q E h=>?_) (fun cdv A outer s H vs Q E hr h=>?_)
 ·obtain⟨a,w,rfl,_⟩:=h;rfl
 ·obtain⟨a,w,rfl,hS,k⟩:=h;refine⟨_,ay (bH (i:=1) yC.nd rfl (Or.inl rfl) aY) (ay (i9 cH rfl (fG (pv 0)) (b8 (i:=2) yC.nd rfl (Or.inl rfl))
   (aD (bH (i:=1) yC.nd rfl (Or.inl rfl) (eB wC (eB k6 (eB LJ (pv 1) aY) (pv 2)) (dS c.d0))))) (aD (aW (pv 1)))),?_⟩
  refine⟨_,rfl,a,rfl,⟨_,hS⟩,mz (K:=K) (a:=a) (xs:=zs w) (fun i σ H'=>H'=H/\∃v:Option V,σ=[some (.ref a),some (.int (Kz (w.take i))),v]) ⟨rfl,none,rfl⟩ (fun i σ H' _ ⟨e,_⟩=>by rw[e];exact hS) ?_ ?_⟩
  ·rintro i x σ H' hi ⟨rfl,v,rfl⟩;obtain⟨y,hy,rfl⟩:=xE hi;refine⟨_,rfl,_,_,rfl,rfl,.inr ⟨by decide,by decide⟩,_,rfl,_,_,rfl,rfl,_,_,rfl,rfl,rfl,some (.int (y:Int)),?_⟩;rw[KG hy];rfl
  ·rintro σ H' ⟨rfl,v,rfl⟩;refine⟨_,rfl,?_⟩;rw[cF,bL];exact k
def val(c:Nat):Bool:=decide (97<=c/\c<=122\/48<=c/\c<=57)
theorem uq(w:List Nat):Vbptan.isValue w=(decide (1<=w.length/\w.length<=12)&&w.all val):=rfl
def Jb(K:PySem.W.Frag):Sp:=fun vs H Q _=>∃(a:Addr) (w:List Nat),vs=[.ref a]/\cI K H a (zs w)/\∀H',bF H H'->Q (.bl (Vbptan.isValue w)) H'
theorem Dd:bh ["word","byte"] ["word"] (aN E8):=⟨rfl,rfl,rfl,by decide +kernel,rfl,by decide +kernel,by decide +kernel⟩
theorem MZ{f fD:Addr}{fd PR:FuncData}(F:A9 K "is_value" "is_value" E8 f fd)(c:Cn mg)(b:Bn mg)(FD:A9 K "is_digit" "is_digit" vp fD PR)(bD:jn K PR ["byte"] [])(mD:mg "is_digit"=some (.ref fD)):
  jz P w K mg base ig 2 f fd ["word"] (Jb K):=by
 have GD:jz P w K mg base ig 1 fD PR ["byte"] yz:=Fb FD c;refine F.ok Dd (fun vs H Q E h=>?_) (fun cdv A outer s H vs Q E hr h=>?_)
 ·obtain⟨a,w,rfl,_⟩:=h;rfl
 ·obtain⟨a,w,rfl,hS,k⟩:=h;refine⟨_,ay (b7 (PW.pt (BI (bz yV (fX b (pv 0)) aY (bM _)) (wB (bz yW (fX b (pv 0)) (dS c.mv) (bM _))))) (aD (aW mj)) bC)
   (aD (aW (eU (L5 rfl) rfl b.Wd PyProof.Rows.Boot.«all» (ah (oB (own:=[("byte",1)]) rfl Dd.nd (fG (pv 0)) (fM (by kernel_rfl)) (fun _ _ _ _ _=>b8 (i:=1) Dd.nd rfl (Or.inl rfl)) (fun _ _ _ _ _=>lU)
    (fun _ _ _ _ _=>Ve (CT GD hr rfl mD FD.kp bD .nil bx (ah (pv 1) aA)) (RL (yY ny ny (dS c.la) (pv 1) (dS c.lz))))) aA)))),?_⟩
  have ln:(zs w).length=w.length:=cF w;have no:(¬(1<=w.length/\w.length<=12))->Vbptan.isValue w=false:=fun h=>by rw[uq,aK h,jX]
  refine⟨_,rfl,a,_,rfl,.inl hS,_,_,rfl,rfl,_,rfl,?_⟩;refine gm (fun h1=>?_) (fun h1=>?_)
  ·refine cW ?_;have q:=no (fun z=>by have:=aH h1;rw[ln]at this;omega);rw[q]at k;exact k H (bF.refl H)
  ·refine⟨_,rfl,a,_,rfl,.inl hS,_,_,rfl,rfl,_,rfl,?_⟩;refine gm (fun h2=>?_) (fun h2=>?_)
   ·have q:=no (fun z=>by have:=aH h2;rw[ln]at this;omega);rw[q]at k;exact k H (bF.refl H)
   ·have l1:1<=w.length/\w.length<=12:=by
     have e1:¬((zs w).length:Int)<1:=fun z=>h1 (aC z);have e2:¬(12:Int)<((zs w).length:Int):=fun z=>h2 (aC z);rw[ln]at e1 e2;omega
    refine⟨_,rfl,a,rfl,⟨_,hS⟩,fun D hD=>?_⟩;have sm:bF H (upd H D (.lst [])):=fun b o e=>by rw[aI (aS e hD)];exact e
    refine jA (K:=K) (a:=a) (xs:=zs w) (fun i H'=>bF H H'/\H' D=some (.lst ((w.take i).map fun x=>V.bl (val x)))) ⟨sm,aj⟩ (fun i H' _ ⟨z,_⟩=>z.seq hS) (fun i x H' hi ⟨z1,z2⟩=>?_) (fun H' ⟨z1,z2⟩=>?_)
    ·obtain⟨y,hy,rfl⟩:=xE hi;have fin:∀bb:Bool,bb=val y->∃acc,H' D=some (.lst acc)/\acc.length<sizeLine/\bF H (upd H' D (.lst (acc++[V.bl bb])))/\upd H' D (.lst (acc++[V.bl bb])) D=some (.lst ((w.take (i+1)).map fun x=>V.bl (val x))):=fun bb ebb=>by
      refine⟨_,z2,?_,fun b o e=>?_,?_⟩
      ·rw[ai,b4];exact cM (Nat.min_le_right _ _) (wN (by omega))
      ·rw[aI (aS e hD)];exact z1 b o e
      ·have e2:w.take (i+1)=w.take i++[y]:=by rw[kU,hy];rfl
       rw[aj,e2,aX,ebb];rfl
     refine⟨rfl,_,rfl,y,rfl,_,rfl,?_⟩;refine gm (fun h3=>fin true ?_) (fun h3=>?_)
     ·have h3':48<=y/\y<=57:=aH h3;unfold val;rw[aC (.inr h3')]
     ·have h3':¬(48<=y/\y<=57):=fun z=>h3 (aC z);refine⟨_,rfl,_,_,rfl,rfl,_,rfl,?_⟩;refine gm (fun h4=>?_) (fun h4=>fin false ?_)
      ·refine⟨_,_,rfl,rfl,fin _ ?_⟩;have Wg:=aH h4;unfold val;rw[cR,aZ,aZ];omega
      ·have Wg:¬(97:Int)<=(y:Int):=fun z=>h4 (aC z);unfold val;rw[aK (by omega)]
    ·rw[cF,bL]at z2;have e2:(w.map fun x=>V.bl (val x))=(w.map val).map V.bl:=by rw[cX];rfl
     rw[e2]at z2;refine⟨D,_,rfl,cI.of z2,?_⟩;have:=k H' z1;rw[uq,aC l1,g8]at this;have e3:(w.map val).all id=w.all val:=by rw[List.all_map];rfl
     rw[e3];exact this
end
end Gz
namespace L2
open PySem PySem.Spec PyProof.Rows
theorem M0{K:PySem.W.Frag}{a:Addr}{xs:List V}{g:TG}{tb:TS}{D:wj}{σ:St}{H:Hp}(Pv:Nat->St->Hp->Prop)(h0:Pv 0 σ H)(hl:∀i σ H,i<=xs.length->Pv i σ H->cI K H a xs)
  (hs:∀i x T σ H,xs[i]? =some x->H T=none->Pv i σ H->g (.ref T) σ (upd H T (.tup [.int (i:Nat),x])) fun σ2 H2=>tb {D with nx:=Pv (i+1),ct:=Pv (i+1),bk:=D.nx} σ2 H2) (hd:∀σ H,Pv xs.length σ H->D.nx σ H):
  ∃W:Nat->Nat->St->Hp->Prop,(∃m,W 0 m σ H)/\∀i m σ H,W i m σ H->
   ((VG K a).stop i H/\D.nx σ H)\/((VG K a).go i H/\∃N:St->Hp->Prop,(∀σ' H',N σ' H'->∃m',m'<m/\W (i+1) m' σ' H')/\∀x H',(VG K a).JV i H x H'->g x σ H' fun σ2 H2=>tb {D with nx:=N,ct:=N,bk:=D.nx} σ2 H2):=by
 refine⟨fun i m σ H=>m=xs.length-i/\i<=xs.length/\Pv i σ H,⟨xs.length,by simp,bu _,h0⟩,?_⟩;rintro i m σ H ⟨rfl,hi,p⟩;have q:=hl i σ H hi p;by_cases hlt:i<xs.length
 ·refine .inr ⟨⟨xs,xs[i],q,by simp[hlt]⟩,Pv (i+1),fun σ' H' p'=>⟨xs.length-(i+1),by omega,rfl,hlt,p'⟩,fun x H' y=>?_⟩;obtain⟨T,x',rfl,hT,rfl,y⟩:=y;exact hs i x' T _ _ (y xs q) hT p
 ·have e:i=xs.length:=by omega
  subst e;exact .inl ⟨⟨xs,q,aq _⟩,hd σ H p⟩
theorem PU{K:PySem.W.Frag}{a:Addr}{xs:List V}{g:TG}{tb:TS}{D:wj}{σ:St}{H:Hp}(Pv:Nat->St->Hp->Prop)(h0:Pv 0 σ H)(hl:∀i σ H,i<=xs.length->Pv i σ H->cI K H a xs)
  (hs:∀i x σ H,i<xs.length->xs[xs.length-1-i]? =some x->Pv i σ H->g x σ H fun σ2 H2=>tb {D with nx:=Pv (i+1),ct:=Pv (i+1),bk:=D.nx} σ2 H2) (hd:∀σ H,Pv xs.length σ H->D.nx σ H):
  ∃W:Nat->Nat->St->Hp->Prop,(∃m,W 0 m σ H)/\∀i m σ H,W i m σ H->
   ((VB K a xs.length).stop i H/\D.nx σ H)\/((VB K a xs.length).go i H/\∃N:St->Hp->Prop,(∀σ' H',N σ' H'->∃m',m'<m/\W (i+1) m' σ' H')/\∀x H',(VB K a xs.length).JV i H x H'->g x σ H' fun σ2 H2=>tb {D with nx:=N,ct:=N,bk:=D.nx} σ2 H2):=by
 refine⟨fun i m σ H=>m=xs.length-i/\i<=xs.length/\Pv i σ H,⟨xs.length,by simp,bu _,h0⟩,?_⟩;rintro i m σ H ⟨rfl,hi,p⟩;have q:=hl i σ H hi p;by_cases hlt:i<xs.length
 ·refine .inr ⟨⟨hlt,xs,xs[xs.length-1-i]'(by omega),q,by simp⟩,Pv (i+1),fun σ' H' p'=>⟨xs.length-(i+1),by omega,rfl,hlt,p'⟩,fun x H' y=>?_⟩;obtain⟨rfl,y⟩:=y;exact hs i x _ _ hlt (y xs q) p
 ·have e:i=xs.length:=by omega
  subst e;exact .inl ⟨aq _,hd σ H p⟩
theorem S3{x:Str}{g:TG}{tt:TT}{te:TE}{vs:List Nat}{σ:St}{H1:Hp}{D:Addr}{Qd:Hp->Prop}(Pv:Nat->Hp->Prop)(h0:Pv 0 (upd H1 D (.lst [])))
  (hs:∀i c H,x.cps[i]? =some c->Pv i H->g (.str ⟨#[c]⟩) (wipe σ vs) H fun σ2 H2=>wipe σ2 vs=wipe σ vs/\tt σ2 H2 fun b H3=>
   if b=true then te σ2 H3 fun y H4=>∃acc,H4 D=some (.lst acc)/\acc.length<sizeLine/\Pv (i+1) (upd H4 D (.lst (acc++[y])))else Pv (i+1) H3) (hd:∀H,Pv x.cps.size H->Qd H):
  ∃W:Nat->Nat->Hp->Prop,(∃m,W 0 m (upd H1 D (.lst [])))/\∀i m H,W i m H->
   ((VC x).stop i H/\Qd H)\/((VC x).go i H/\∃Nx:Hp->Prop,(∀H',Nx H'->∃m',m'<m/\W (i+1) m' H')/\∀v H',(VC x).JV i H v H'->g v (wipe σ vs) H' fun σ2 H2=>wipe σ2 vs=wipe σ vs/\tt σ2 H2 fun b H3=>
    if b=true then te σ2 H3 fun y H4=>∃acc,H4 D=some (.lst acc)/\acc.length<sizeLine/\Nx (upd H4 D (.lst (acc++[y])))else Nx H3):=by
 refine⟨fun i m H=>m=x.cps.size-i/\i<=x.cps.size/\Pv i H,⟨x.cps.size,by simp,bu _,h0⟩,?_⟩;rintro i m H ⟨rfl,hi,p⟩;by_cases hlt:i<x.cps.size
 ·refine .inr ⟨hlt,Pv (i+1),fun H' p'=>⟨x.cps.size-(i+1),by omega,rfl,hlt,p'⟩,fun v H' y=>?_⟩;obtain⟨e,c,hc,rfl⟩:=y;subst e;exact hs i c _ hc p
 ·have e:i=x.cps.size:=by omega
  subst e;exact .inl ⟨aq _,hd H p⟩
def SameBut(l:Addr)(H H':Hp):Prop:=∀b o,H b=some o->b≠l->H' b=some o
theorem bF.but{l:Addr}{H H':Hp}(s:bF H H'):SameBut l H H':=fun b o e _=>s b o e
theorem SameBut.trans{l:Addr}{H H1 H2:Hp}(a:SameBut l H H1)(b:SameBut l H1 H2):SameBut l H H2:=fun c o e n=>b c o (a c o e n) n
theorem d7{l:Addr}{H:Hp}{o:HO} :SameBut l H (upd H l o):=fun b u e n=>by rw[aI n];exact e
theorem aO{l:Addr}{H:Hp}{o:HO}(h:H l=none):bF H (upd H l o):=fun b u e=>by rw[aI (aS e h)];exact e
end L2
namespace Gz
open PySem PySem.Spec PyProof.Rows L2
theorem PV{t:List Nat}{s i:Nat}(h1:s<=i)(h2:i<=t.length):pA (zs t) (some (s:Int)) (some (i:Int))=zs ((t.drop s).take (i-s)):=by
 unfold pA;rw[HT.r8,HT.r8,cF,lZ h2,lZ (aP h1 h2)];show((t.map _).drop s).take (i-s)=((t.drop s).take (i-s)).map _;rw[List.map_take,OF]
theorem PX{t:List Nat}{s:Nat}(h:s<=t.length):pA (zs t) (some (s:Int)) none=zs (t.drop s):=by
 unfold pA;rw[HT.r8,HT.Et,cF,lZ h];show((t.map _).drop s).take (t.length-s)=(t.drop s).map _;rw[<- OF];exact bN (by rw[ai,iW];exact aq _)
def less(H G:Hp):Hp:=fun b=>match G b with
 |none=>H b
 |some _=>none
theorem cP{H G:Hp}{b:Addr}(h:G b=none):less H G b=H b:=by unfold less;rw[h]
theorem nF{H G:Hp}{b:Addr}{o:HO}(h:less H G b=some o):G b=none/\H b=some o:=by
 unfold less at h;cases e:G b with
 |none=>rw[e]at h;exact⟨rfl,h⟩
 |some u=>rw[e]at h;cases h
theorem d8{H:Hp}{G:Hp}{b:Addr}{o:HO}(h:less H G b=some o):H b=some o:=(nF h).2
theorem gq{H H' G:Hp}{r:Addr}(s:SameBut r H H')(h:G r≠none):bF (less H G) (less H' G):=fun b o e=>by
 obtain⟨e1,e2⟩:=nF e;rw[cP e1];exact s b o e2 (fun z=>h (by rw[<- z];exact e1))
theorem mG{H G:Hp}{b:Addr}(hG:∀b,G b≠none->H b≠none)(h:H b=none):G b=none:=by
 cases e:G b with
 |none=>rfl
 |some u=>exact absurd h (hG b (by rw[e];intro z;cases z))
theorem pF{H H' G:Hp}(s:bF H H'):bF (less H G) (less H' G):=fun b o e=>by
 obtain⟨e1,e2⟩:=nF e;rw[cP e1];exact s b o e2
theorem zV{H H' G:Hp}{l:Addr}(s:SameBut l H H'):SameBut l (less H G) (less H' G):=fun b o e n=>by
 obtain⟨e1,e2⟩:=nF e;rw[cP e1];exact s b o e2 n
open Vbptan (Word cut)
def qT(l:Addr)(H:Hp)(t:Addr)(w:Word):Prop:=∃b,b≠l/\H t=some (.tup [.int (w.1:Int),.ref b])/\H b=some (.lst (zs w.2))
structure jB (H:Hp) (l:Addr) (ts:List Addr) (ws:List Word):Prop where
 lst:H l=some (.lst (ts.map V.ref))
 all:Paired (qT l H) ts ws
theorem qT.but{l t:Addr}{H H':Hp}{w:Word}(nl:∃xs,H l=some (.lst xs))(s:SameBut l H H')(h:qT l H t w):qT l H' t w:=by
 obtain⟨b,nb,ht,hb⟩:=h;obtain⟨xs,hl⟩:=nl;exact⟨b,nb,s _ _ ht (ic ht hl (by intro z;cases z)),s _ _ hb nb⟩
theorem jB.same{H H':Hp}{l:Addr}{ts:List Addr}{ws:List Word}(h:jB H l ts ws)(s:bF H H'):jB H' l ts ws:=
 ⟨s _ _ h.lst,bX (fun _ _ q=>q.but ⟨_,h.lst⟩ s.but) h.all⟩
theorem jB.push{H H':Hp}{l t:Addr}{ts:List Addr}{ws:List Word}{w:Word}(h:jB H l ts ws)(s:SameBut l H H')(hl:H' l=some (.lst (ts.map V.ref++[.ref t])))(ht:qT l H' t w):jB H' l (ts++[t]) (ws++[w]):=
 ⟨by rw[hl,aX];rfl,iO (bX (fun _ _ q=>q.but ⟨_,h.lst⟩ s) h.all) ht⟩
theorem wX{α β:Type}{F:α->β->Prop} :∀{l₁:List α} {l₂:List β} {i:Nat} {y:β},Paired F l₁ l₂->l₂[i]? =some y->∃x,l₁[i]? =some x/\F x y
 |_,_,_,_,.nil,e=>by simp at e
 |_,_,0,_,.cons r _,e=>by simp at e;subst e;exact⟨_,rfl,r⟩
 |_,_,i+1,y,.cons _ t,e=>by
  obtain⟨u,h1,h2⟩:=wX (i:=i) (y:=y) t (by simpa using e);exact⟨u,by simpa using h1,h2⟩
section
variable{X:Cx}
theorem qU{o e:Expr}{to te:TE}{apos pos pos':Pos}(ho:PE X o to)(he:PE X e te)(hst:starEach [e] X.env=(false,eval e X.env)::starEach [] X.env:=by rfl)
  (hb:attributeBase o "append" X.env (eval o X.env)=eval o X.env:=by rfl) (hfew:((((backTo pos (starEach [e] X.env)).all fun x=> !x.1)&&(backToKw pos (keywordEach [] X.env)).all fun x=>x.1.isSome)&&decide (([e].length+([]:List Keyword).length+if([]:List Keyword).isEmpty=true then 0 else 1)<30))=true:=by rfl)
  (hline:(apos.endLine==pos.line)=true:=by rfl) (hs:swapsWith (.Call (.Attribute o "append" apos) [e] [] pos) none pos'.line X.env=pure false:=by rfl):
  PS X (.Expr (.Call (.Attribute o "append" apos) [e] [] pos) pos') (yS (Sa X.K "list" uY to (cE te fW))):=
 f9 (Q7 PySem.F.plainAttrs_list PySem.F.slot_list_append PySem.F.type_list_append J1 ho (ah he aA hst) (hbase:=hb) (hfew:=hfew) (hline:=hline) (hs:=hst)) hs
end
section
variable{P:Program}{w:World}{K:PySem.W.Frag}{mg:Str->Option Value}{base:Heap}
def Jc(K:PySem.W.Frag):Sp:=fun vs H Q _=>∃(a:Addr) (t:List Nat),vs=[.ref a]/\cI K H a (zs t)/\t.length<=2000/\∀H' l ts,H l=none->bF H H'->jB (less H' H) l ts (cut 0 t)->Q (.ref l) H'
theorem sD:bh ["text","words","start","place","byte"] ["text"] (aN E9):=⟨rfl,rfl,rfl,by decide +kernel,rfl,by decide +kernel,by decide +kernel⟩
theorem M3{f:Addr}{fd:FuncData}(F:A9 K "words_of" "words_of" E9 f fd)(c:Cn mg)(b:Bn mg):jz P w K mg base ig 1 f fd ["text"] (Jc K):=by
 refine F.ok sD (fun vs H Q E h=>?_) (fun cdv A outer s H vs Q E hr h=>?_)
 ·obtain⟨a,t,rfl,_⟩:=h;rfl
 ·obtain⟨a,t,rfl,hS,hlen,k⟩:=h;refine⟨_,ay (bH (i:=1) sD.nd rfl (Or.inl rfl) (b6 aA)) (ay (bH (i:=2) sD.nd rfl (Or.inl rfl) aY)
   (ay (i9 cH rfl (Pd rfl b.enum (ah (pv 0) aA)) (nY rfl (dN (b8 (i:=3) sD.nd rfl (Or.inl rfl)) (dN (b8 (i:=4) sD.nd rfl (Or.inl rfl)) kC)))
    (aD (b7 (PW.pt (BI (bz gk (pv 4) (dS c.blank) (bM _)) (wB (bz gk (pv 4) (dS c.lend) (bM _)))))
     (ay (qU (pv 1) (o9 (ah (pv 2) (ah (qB uU (pv 0) (nA (pv 2)) (nA (pv 3))) aA))))
     (ay (b7 (bz gk (pv 4) (dS c.lend) (bM _)) (aD (qU (pv 1) (o9 (ah (pv 3) (ah (b6 (ah (dS c.lend) aA)) aA))))) bC)
     (aD (bH (i:=2) sD.nd rfl (Or.inl rfl) (eB k6 (pv 3) aY)))))
     bC)))
   (ay (qU (pv 1) (o9 (ah (pv 2) (ah (qB uU (pv 0) (nA (pv 2)) Iz) aA))))
   (aD (aW (pv 1)))))),?_⟩
  refine⟨bu _,fun l hl=>?_⟩;refine⟨_,rfl,a,_,rfl,(aO hl).seq hS,M0 (K:=K) (a:=a) (xs:=zs t) (fun i σ H'=>∃(v3 v4:Option V) (ws:List Word) (s:Nat) (ts:List Addr),σ=[some (.ref a),some (.ref l),some (.int (s:Int)),v3,v4]/\i<=t.length/\gf t i ws s/\bF H H'/\jB (less H' H) l ts ws/\ts.length<=2*i)
   ⟨none,none,[],0,[],rfl,bu _,gf.start t,aO hl,⟨(by rw[cP hl];exact aj),.nil⟩,bu _⟩ (fun i σ H' _ ⟨_,_,_,_,_,_,_,_,sm,_⟩=>sm.seq hS) ?_ ?_⟩
  ·rintro i x T σ H' hi hT ⟨v3,v4,ws,s,ts,rfl,hile,C,sm,W,hts⟩;obtain⟨y,hy,rfl⟩:=xE hi;have hlt:i<t.length:=(List.getElem?_eq_some_iff.mp hy).1;refine⟨T,_,rfl,lD.of aj,rfl,_,_,rfl,_,_,rfl,rfl,?_⟩;have XJ:bF H' (upd H' T (.tup [.int (i:Nat),.int (y:Int)])):=aO hT;have W1:=W.same (pF XJ);have S5:=sm.trans XJ;have other:y≠32->y≠10->∃(v3 v4:Option V) (ws:List Word) (s':Nat) (ts:List Addr),([some (.ref a),some (.ref l),some (.int (s:Int)),some (.int (i:Nat)),some (.int (y:Int))]:L2.St)=[some (.ref a),some (.ref l),some (.int (s':Int)),v3,v4]/\i+1<=t.length/\gf t (i+1) ws s'/\bF H (upd H' T (.tup [.int (i:Nat),.int (y:Int)]))/\jB (less (upd H' T (.tup [.int (i:Nat),.int (y:Int)])) H) l ts ws/\ts.length<=2*(i+1):=fun n1 n2=>
    ⟨_,_,ws,s,ts,rfl,hlt,C.other hy n1 n2,S5,W1,by omega⟩
   have app:∀(D:wj),(∀H2 t1,SameBut l (upd H' T (.tup [.int (i:Nat),.int (y:Int)])) H2->jB (less H2 H) l (ts++[t1]) (ws++[(s,(t.drop s).take (i-s))])->D.nx [some (.ref a),some (.ref l),some (.int (s:Int)),some (.int (i:Nat)),some (.int (y:Int))] H2)->
     yS (Sa K "list" uY (cT 1) (cE (OV (cE (cT 2) (cE (tSl (Vp K) (cT 0) (LV (cT 2)) (LV (cT 3))) fW))) fW)) D [some (.ref a),some (.ref l),some (.int (s:Int)),some (.int (i:Nat)),some (.int (y:Int))] (upd H' T (.tup [.int (i:Nat),.int (y:Int)])):=fun D kk=>by
    refine⟨_,rfl,.inl ⟨rfl,_,cI.of (d8 W1.lst)⟩,_,rfl,_,rfl,_,rfl,_,rfl,_,rfl,_,rfl,a,_,rfl,S5.seq hS,fun b hb=>⟨by show 2<=sizeLine;decide,fun t1 ht1=>?_⟩⟩;have Rj:b≠l:=(aS (d8 W1.lst) hb).symm;have wY:=aO (o:=.lst (pA (zs t) (some (s:Int)) (some (i:Int)))) hb;have Hv:=aO (o:=.tup [.int (s:Int),.ref b]) ht1;refine⟨l,_,_,rfl,rfl,Hv _ _ (wY _ _ (d8 W1.lst)),?_,kk _ t1 ((wY.trans Hv).but.trans d7) ?_⟩
    ·rw[ai];exact cM hts (by show 2*i<2 ^ 24;omega)
    ·refine(W1.same (pF (wY.trans Hv))).push (zV d7) (by rw[cP hl];exact aj) ⟨b,Rj,?_,?_⟩
     ·rw[cP ((S5.trans wY).free ht1),aI (fun z=>by rw[z,wY _ _ (d8 W1.lst)]at ht1;cases ht1),aj]
     ·rw[cP (S5.free hb),aI Rj,aI (fun z=>by rw[z]at hb;rw[z,aj]at ht1;cases ht1),aj,PV C.le hile]
   have inl:∀{n m:Nat},(V.int (n:Int))=V.int (m:Int)->n=m:=fun{n m} e=>by injection e with e;exact Int.ofNat_inj.mp e
   refine⟨_,rfl,rfl,_,rfl,?_⟩;refine gm (fun h1=>?_) (fun h1=>?_)
   ·have ey:y=32:=inl (aH h1);subst ey;refine cW (app _ fun H2 t1 s2 W2=>?_);refine⟨_,rfl,rfl,_,rfl,gm (fun h2=>absurd (inl (n:=32) (m:=10) (aH h2)) (by decide)) fun _=>?_⟩;refine⟨_,rfl,_,_,rfl,rfl,_,_,_,i+1,_,rfl,hlt,C.blank hy,fun b o e=>s2 b o (S5 b o e) (aS e hl),W2,?_⟩;rw[au];show ts.length+1<=_;omega
   ·refine⟨_,rfl,rfl,_,rfl,?_⟩;refine gm (fun h2=>?_) (fun h2=>?_)
    ·have ey:y=10:=inl (aH h2);subst ey;refine app _ fun H2 t1 s2 W2=>?_;refine⟨_,rfl,rfl,_,rfl,gm (fun _=>?_) fun h3=>absurd rfl h3⟩;refine⟨_,rfl,.inl ⟨rfl,_,cI.of (d8 W2.lst)⟩,_,rfl,(by show 1<=sizeLine;decide),fun b hb=>⟨by show 2<=sizeLine;decide,fun t2 OI=>?_⟩⟩;have Rj:b≠l:=(aS (d8 W2.lst) hb).symm;have wY:=aO (o:=.lst [.int 10]) hb;have Hv:=aO (o:=.tup [.int (i:Int),.ref b]) OI;refine⟨l,_,_,rfl,rfl,Hv _ _ (wY _ _ (d8 W2.lst)),?_,?_⟩
     ·rw[ai,au];show ts.length+1<2 ^ 24;omega
     ·have n2:t2≠l:=fun z=>by rw[z,wY _ _ (d8 W2.lst)]at OI;cases OI
      have nb2:b≠t2:=fun z=>by rw[<- z,aj]at OI;cases OI
      have smB:bF H H2:=fun b o e=>s2 b o (S5 b o e) (aS e hl);have W3:=(W2.same (pF (wY.trans Hv))).push (w:=(i,[10])) (zV d7) (by rw[cP hl];exact aj) ⟨b,Rj,(by rw[cP ((smB.trans wY).free OI),aI n2,aj]),(by rw[cP (smB.free hb),aI Rj,aI nb2,aj];rfl)⟩;rw[bw,bw]at W3;refine⟨_,rfl,_,_,rfl,rfl,_,_,_,i+1,_,rfl,hlt,C.line hy,fun b o e=>?_,W3,?_⟩
      ·have nl:=aS e hl;exact((wY.trans Hv).but.trans d7) b o (s2 b o (S5 b o e) nl) nl
      ·rw[au];show ts.length+2<=_;omega
    ·exact other (fun z=>h1 (aC (by rw[z];rfl))) (fun z=>h2 (aC (by rw[z];rfl)))
  ·rintro σ H' ⟨v3,v4,ws,s,ts,rfl,_,C,sm,W,hts⟩;rw[cF]at C hts;refine⟨_,rfl,.inl ⟨rfl,_,cI.of (d8 W.lst)⟩,_,rfl,_,rfl,_,rfl,_,rfl,a,_,rfl,sm.seq hS,fun b hb=>⟨by show 2<=sizeLine;decide,fun t1 ht1=>?_⟩⟩;have Rj:b≠l:=(aS (d8 W.lst) hb).symm;have wY:=aO (o:=.lst (pA (zs t) (some (s:Int)) none)) hb;have Hv:=aO (o:=.tup [.int (s:Int),.ref b]) ht1;have e1:pA (zs t) (some (s:Int)) none=zs (t.drop s):=PX C.le;refine⟨l,_,_,rfl,rfl,Hv _ _ (wY _ _ (d8 W.lst)),?_,_,rfl,?_⟩
   ·rw[ai];exact cM hts (by show 2*t.length<2 ^ 24;omega)
   ·have n2:t1≠l:=fun z=>by rw[z,wY _ _ (d8 W.lst)]at ht1;cases ht1
    have nb2:b≠t1:=fun z=>by rw[<- z,aj]at ht1;cases ht1
    have W3:=(W.same (pF (wY.trans Hv))).push (w:=(s,t.drop s)) (zV d7) (by rw[cP hl];exact aj) ⟨b,Rj,(by rw[cP ((sm.trans wY).free ht1),aI n2,aj]),(by rw[cP (sm.free hb),aI Rj,aI nb2,aj,e1])⟩;rw[C.fin]at W3;exact k _ l _ hl (fun b o e=>by
     have nl:=aS e hl;exact((wY.trans Hv).but.trans d7) b o (sm b o e) nl) W3
end
end Gz
namespace Gz
open PySem PySem.Spec PyProof.Rows L2
def jv(K:PySem.W.Frag)(mg:Str->Option Value)(x:Str)(st:Stmt)(ps:List Str):Prop:=
 ∃f fd,A9 K x x st f fd/\jn K fd ps []/\mg x=some (.ref f)
def yo(K:PySem.W.Frag)(C:Addr)(q m:Str)(st:Stmt)(ps:List Str):Prop:=
 ∃f fd,A9 K m q st f fd/\jn K fd ps []/\OB K C m f
def Hw(K:PySem.W.Frag)(mg:Str->Option Value)(C:Addr)(x q:Str)(st:Stmt)(ps:List Str):Prop:=
 ∃f fd,A9 K "__init__" q st f fd/\jn K fd ps []/\Mk K C f/\mg x=some (.ref C)
def Fn(P:Program)(w:World)(K:PySem.W.Frag)(mg:Str->Option Value)(base:Heap)(CX:nZ)(k:Nat)(x:Str)(ps:List Str)(sp:Sp):Prop:=
 ∃f fd,jz P w K mg base CX k f fd ps sp/\mg x=some (.ref f)/\PySem.W.keepIn K (.ref f)=true/\jn K fd ps []
def Lx(P:Program)(w:World)(K:PySem.W.Frag)(mg:Str->Option Value)(base:Heap)(CX:nZ)(k:Nat)(C:Addr)(m:Str)(ps:List Str)(sp:Sp):Prop:=
 ∃f fd,jz P w K mg base CX k f fd ps sp/\OB K C m f/\jn K fd ps []
def U4(P:Program)(w:World)(K:PySem.W.Frag)(mg:Str->Option Value)(base:Heap)(CX:nZ)(k:Nat)(C:Addr)(x:Str)(ps:List Str)(sp:Sp):Prop:=
 ∃f fd,jz P w K mg base CX k f fd ps sp/\Mk K C f/\jn K fd ps []/\mg x=some (.ref C)
section
variable{P:Program}{w:World}{K:PySem.W.Frag}{mg:Str->Option Value}{base:Heap}{CX:nZ}{k:Nat}{x q m:Str}{C:Addr}{st:Stmt}{ps:List Str}{sp:Sp}
theorem jv.fn(D:jv K mg x st ps)(h:∀f fd,A9 K x x st f fd->jz P w K mg base CX k f fd ps sp):Fn P w K mg base CX k x ps sp:=by
 obtain⟨f,fd,F,b,m⟩:=D;exact⟨f,fd,h f fd F,m,F.kp,b⟩
theorem yo.fn(D:yo K C q m st ps)(h:∀f fd,A9 K m q st f fd->jz P w K mg base CX k f fd ps sp):Lx P w K mg base CX k C m ps sp:=by
 obtain⟨f,fd,F,b,m⟩:=D;exact⟨f,fd,h f fd F,m,b⟩
theorem Hw.fn(D:Hw K mg C x q st ps)(h:∀f fd,A9 K "__init__" q st f fd->jz P w K mg base CX k f fd ps sp):U4 P w K mg base CX k C x ps sp:=by
 obtain⟨f,fd,F,b,M,m⟩:=D;exact⟨f,fd,h f fd F,M,b,m⟩
end
section
variable{X:Cx}{CX:nZ}{k j:Nat}{C:Addr}{ps:List Str}{sp:Sp}{E:XK}{x m:Str}{p pos apos:Pos}{e o:Expr}{es:List Expr}{ta:TE}{t:TA}
theorem bI(F:Fn X.prog X.w X.K X.mg X.base CX k x ps sp)(hr:iC j X.A)(hx:lq CX X E)(ha:PA X (e::es) t)(hk:k<=j:=by decide)(hg:Gl X x:=by rfl)
  (hdb:(x==("__debug__" :Str))=false:=by decide) (he:starEach (e::es) X.env=(false,eval e X.env)::starEach es X.env:=by rfl) (hpl:(backTo pos (starEach es X.env)).any (·.1)=false:=by rfl):
  PE X (.Call (.Name x p) (e::es) [] pos) (lF sp [] E t):=by
 obtain⟨f,fd,F,hm,kp,b⟩:=F;exact CT F (hr.mono hk) hg hm kp b .nil hx ha hdb he hpl
theorem gS{pl:Sem Bool}(F:Lx X.prog X.w X.K X.mg X.base CX k C m ps sp)(c:Gv X.K C)(hr:iC j X.A)(hx:lq CX X E)(he:PE X o ta)(ha:PA X (e::es) t)(hk:k<=j:=by decide)
  (hst:starEach (e::es) X.env=(false,eval e X.env)::starEach es X.env:=by rfl) (hpl:(backTo pos (starEach es X.env)).any (·.1)=false:=by rfl)
  (ht:eval (.Call (.Attribute o m apos) (e::es) [] pos) X.env=(do
   let ov <- eval o X.env
   standAt apos.atName
   let (f,first) <- holding [ov] (getMethod ov m pl)
   callWith pos f first (backTo pos (starEach (e::es) X.env)) (backToKw pos (keywordEach [] X.env))):=by rfl):
  PE X (.Call (.Attribute o m apos) (e::es) [] pos) (BK C m sp [] E ta t):=by
 obtain⟨f,fd,F,hm,b⟩:=F;exact OW he c hm F (hr.mono hk) b .nil hx ha hst hpl ht
theorem jb{pl:Sem Bool}(F:Lx X.prog X.w X.K X.mg X.base CX k C m ps sp)(c:Gv X.K C)(hr:iC j X.A)(hx:lq CX X E)(he:PE X o ta)(hk:k<=j:=by decide)
  (ht:eval (.Call (.Attribute o m apos) [] [] pos) X.env=(do
   let ov <- eval o X.env
   standAt apos.atName
   let (f,first) <- holding [ov] (getMethod ov m pl)
   callWith pos f first (backTo pos (starEach [] X.env)) (backToKw pos (keywordEach [] X.env))):=by rfl):
  PE X (.Call (.Attribute o m apos) [] [] pos) (BK C m sp [] E ta fW):=by
 obtain⟨f,fd,F,hm,b⟩:=F;exact LR he c hm F (hr.mono hk) b .nil hx ht
theorem vt(F:U4 X.prog X.w X.K X.mg X.base CX k C x ps sp)(hr:iC j X.A)(hx:lq CX X E)(ha:PA X (e::es) t)(hk:k+1<=j:=by decide)(hg:Gl X x:=by rfl)
  (hdb:(x==("__debug__" :Str))=false:=by decide) (he:starEach (e::es) X.env=(false,eval e X.env)::starEach es X.env:=by rfl) (hpl:(backTo pos (starEach es X.env)).any (·.1)=false:=by rfl):
  PE X (.Call (.Name x p) (e::es) [] pos) (Q3 C sp [] E t):=by
 obtain⟨f,fd,F,M,b,hm⟩:=F;exact OX M F (hr.mono hk) hg hm b .nil hx ha hdb he hpl
def GT(K:PySem.W.Frag)(mg:Str->Option Value)(x:Str)(ns:List Int):Prop:=∃a,mg x=some (.ref a)/\∀H,lD K H a (ns.map V.int)
def XM(K:PySem.W.Frag)(ns:List Int):TE:=fun _ H Q=>∀a,(∀H',lD K H' a (ns.map V.int))->Q (.ref a) H
theorem Cb{x:Str}{ns:List Int}{pos:Pos}(h:GT X.K X.mg x ns)(hg:Gl X x:=by rfl)(hd:(x==("__debug__" :Str))=false:=by decide):PE X (.Name x pos) (XM X.K ns):=by
 obtain⟨a,h1,h2⟩:=h;exact fun pins s σ H Q I h=>Io (v:=.ref a) hg h1 rfl hd pins s σ H Q I (h a h2)
def CK:Nat->List (Option (Int×Int))
 |4=>[some (1,999)]|5=>[some (1,999),some (10,99)]|7=>[some (1,999)]|8=>[some (1,999),some (0,99)]|9=>[some (1,999),some (0,99)]
 |10=>[none,none]|11=>[none,none]|12=>[some (1,99),some (0,100000)]|13=>[some (1,999)]|14=>[none]|15=>[none]|17=>[some (10,99)]|18=>[none]
 |_=>[]
def Jd(K:PySem.W.Frag)(v:V)(o:Option (Int×Int)):Prop:=match o with
 |none=>v=.dY
 |some p=>∃t,v=.ref t/\∀H,lD K H t [.int p.1,.int p.2]
def M4(K:PySem.W.Frag)(b:Addr)(l:List (Option (Int×Int))):Prop:=∃vs,(∀H,lD K H b vs)/\Paired (Jd K) vs l
def GR(K:PySem.W.Frag)(mg:Str->Option Value):Prop:=∃a es,Xr K a es/\mg "RANGES"=some (.ref a)/\∀c:Nat,c<20->∃b,(es.find? fun e=>p5 (Sum.inl (c:Int)) e.key).map (·.val)=some (.ref b)/\M4 K b (CK c)
end
structure Ad where
 (eV M5 De qV S6 b5 gg cLine k9:Addr)
def Wh(K:PySem.W.Frag)(f:Addr)(q:Str)(st:Stmt)(ps:List Str):Prop:=∃fd,A9 K "__init__" q st f fd/\jn K fd ps []/\PySem.W.isFn K (.ref f)=true
theorem iR{N P:List Str}{sc:Scope}(a:sc.kind=.function:=by rfl)(b:sc.isCoroutine=false:=by rfl)(c:sc.isGenerator=false:=by rfl)(d:N.Nodup:=by decide +kernel)(e:N.take P.length=P:=by rfl)
  (f:∀x∈P,sc.names.lookup x=some .local\/sc.names.lookup x=some .cell:=by decide +kernel) (g:∀y∈sc.names,y.2≠.free:=by decide +kernel):bh N P sc:=⟨a,b,c,d,e,f,g⟩
abbrev qW:Stmt:=top 1
theorem ir:bh ["issues","lines","issue","line_number","line"] ["issues"] (aN qW):=iR
abbrev jC:Stmt:=top 2
theorem dU:bh ["lines","standing","struck","place","line"] ["lines"] (aN jC):=iR
abbrev jD:Stmt:=top 3
theorem gC:bh ["lines","deciding","place"] ["lines"] (aN jD):=iR
abbrev mH:Stmt:=top 4
theorem dJ:bh ["issues","lines","deciding","ended","place","line","simple"] ["issues"] (aN mH):=iR
abbrev Cc:Stmt:=top 6
theorem kg:bh ["issues","known_numbers","issue","greatest","number"] ["issues"] (aN Cc):=iR
abbrev Cd:Stmt:=top 7
theorem sE:bh ["issues","file","last_gap","place","simple"] ["issues","file"] (aN Cd):=iR
abbrev vz:Stmt:=inClass (top 17) 0
theorem Df:bh ["self","place"] ["self","place"] (aN vz):=iR
abbrev zW:Stmt:=top 18
theorem ur:bh ["signs","sign"] ["signs"] (aN zW):=iR
abbrev Hx:Stmt:=top 19
abbrev Hy:Stmt:=top 20
abbrev Fd:Stmt:=top 21
abbrev Fe:Stmt:=top 22
abbrev Hz:Stmt:=top 23
abbrev tS:Stmt:=inClass (top 24) 0
theorem Bq:bh ["self","text"] ["self","text"] (aN tS):=iR
abbrev tT:Stmt:=inClass (top 24) 1
theorem Br:bh ["self"] ["self"] (aN tT):=iR
abbrev lG:Stmt:=inClass (top 24) 2
theorem sX:bh ["self"] ["self"] (aN lG):=iR
abbrev tU:Stmt:=inClass (top 24) 3
theorem Bs:bh ["self"] ["self"] (aN tU):=iR
abbrev tV:Stmt:=inClass (top 24) 4
theorem Bt:bh ["self","name"] ["self","name"] (aN tV):=iR
abbrev qX:Stmt:=inClass (top 24) 5
theorem zX:bh ["self","name"] ["self","name"] (aN qX):=iR
abbrev mJ:Stmt:=inClass (top 24) 6
theorem uu:bh ["self","name"] ["self","name"] (aN mJ):=iR
abbrev kL:Stmt:=inClass (top 24) 7
theorem kM:bh ["self","least","greatest","word"] ["self","least","greatest"] (aN kL):=iR
abbrev lH:Stmt:=inClass (top 24) 8
theorem lI:bh ["self","word"] ["self"] (aN lH):=iR
abbrev nG:Stmt:=inClass (top 24) 9
theorem vA:bh ["self"] ["self"] (aN nG):=iR
abbrev tW:Stmt:=inClass (top 34) 0
theorem Bu:bh ["self","verb","file","fields"] ["self","verb","file","fields"] (aN tW):=iR
abbrev xF:Stmt:=inClass (top 35) 0
theorem Ff:bh ["self","aim","simple"] ["self","aim","simple"] (aN xF):=iR
abbrev vB:Stmt:=inClass (top 36) 0
theorem Dg:bh ["self","number","day","lines","text"] ["self","number","day","lines","text"] (aN vB):=iR
abbrev qY:Stmt:=top 37
theorem jE:bh ["text","place","byte"] ["text"] (aN qY):=iR
abbrev xG:Stmt:=top 38
theorem Fg:bh ["reader"] ["reader"] (aN xG):=iR
abbrev kO:Stmt:=top 39
theorem eW:bh ["reader","fields","least","code"] ["reader"] (aN kO):=iR
abbrev tX:Stmt:=top 40
theorem kD:bh ["reader","file","code"] ["reader"] (aN tX):=iR
abbrev zY:Stmt:=top 41
theorem pG:bh ["reader","number","line_number","aimed_issue","greatest_line"] ["reader","number","line_number"] (aN zY):=iR
abbrev xH:Stmt:=top 42
theorem xJ:bh ["reader","number","line_number","aim"] ["reader","number","line_number"] (aN xH):=iR
abbrev vC:Stmt:=top 43
theorem vD:bh ["reader","number","lines"] ["reader","number"] (aN vC):=iR
abbrev mK:Stmt:=top 44
theorem jc:bh ["text","number","reader","lines"] ["text","number"] (aN mK):=iR
abbrev vE:Stmt:=top 45
theorem fQ:bh ["text","reader","number","day","lines","close_place","count","check"] ["text"] (aN vE):=iR
abbrev qZ:Stmt:=top 47
theorem mL:bh ["issues","number","issue"] ["issues","number"] (aN qZ):=iR
abbrev M6:Stmt:=top 48
theorem S8:bh ["files","simple"] ["files","simple"] (aN M6):=iR
abbrev rf:Stmt:=top 49
theorem jF:bh ["issues","number","files","place","simple"] ["issues","number"] (aN rf):=iR
abbrev xK:Stmt:=top 50
theorem nH:bh ["files","file","fields","record","code"] ["files","file"] (aN xK):=iR
abbrev lJ:Stmt:=top 51
theorem gh:bh ["here","there","either","file"] ["here","there"] (aN lJ):=iR
abbrev p8:Stmt:=top 53
theorem i0:bh ["number","day","lines_text","count","head","check"] ["number","day","lines_text"] (aN p8):=iR
abbrev oJ:Stmt:=top 54
theorem iE:bh ["simple","text","code","value"] ["simple"] (aN oJ):=iR
abbrev xM:Stmt:=top 57
theorem Fi:bh ["issues"] ["issues"] (aN xM):=iR
abbrev vF:Stmt:=top 58
theorem Dh:bh ["issues"] ["issues"] (aN vF):=iR
abbrev tY:Stmt:=top 59
theorem Bv:bh ["issues","file"] ["issues","file"] (aN tY):=iR
abbrev vG:Stmt:=top 60
theorem vH:bh ["issues","file","code","fields"] ["issues","file","code"] (aN vG):=iR
abbrev xN:Stmt:=top 61
theorem Fj:bh ["issues","file"] ["issues","file"] (aN xN):=iR
abbrev tZ:Stmt:=top 62
theorem Bw:bh ["issues","file","number"] ["issues","file","number"] (aN tZ):=iR
abbrev xO:Stmt:=top 63
theorem Fl:bh ["issues","file","number"] ["issues","file","number"] (aN xO):=iR
abbrev mO:Stmt:=top 64
theorem jd:bh ["lines","place","decider","fixed"] ["lines","place"] (aN mO):=iR
abbrev xP:Stmt:=top 65
theorem xQ:bh ["issues","place","lines"] ["issues","place"] (aN xP):=iR
abbrev xR:Stmt:=top 66
theorem jj:bh ["issues","aimed","lines","standing","told","place","line"] ["issues","aimed"] (aN xR):=iR
abbrev xS:Stmt:=top 67
theorem rg:bh ["issues","standing","last"] ["issues"] (aN xS):=iR
abbrev rj:Stmt:=top 68
theorem jG:bh ["issues","file","told","place","simple"] ["issues","file"] (aN rj):=iR
abbrev rq:Stmt:=top 69
theorem jH:bh ["issues","numbers","left","issue","changed"] ["issues","numbers"] (aN rq):=iR
abbrev t6:Stmt:=top 70
theorem kE:bh ["issues","code","value","files","file"] ["issues","code","value"] (aN t6):=iR
abbrev rA:Stmt:=top 88
theorem mP:bh ["known","number"] ["known"] (aN rA):=iR
abbrev vI:Stmt:=top 89
theorem vJ:bh ["known","issue","other"] ["known","issue"] (aN vI):=iR
abbrev xT:Stmt:=top 90
theorem xU:bh ["known","issue","number"] ["known","issue"] (aN xT):=iR
abbrev M7:Stmt:=top 91
theorem HA:bh ["known","text","issue","fault"] ["known","text"] (aN M7):=iR
abbrev Je:Stmt:=top 92
theorem Jf:bh ["text","fault"] ["text"] (aN Je):=iR
abbrev Jg:Stmt:=top 93
theorem Di:bh ["number","day","lines_text","text","fault"] ["number","day","lines_text"] (aN Jg):=iR
abbrev M8:Stmt:=top 94
theorem S9:bh ["known","number"] ["known","number"] (aN M8):=iR
abbrev Ce:Stmt:=top 95
theorem wZ:bh ["known","numbers","number"] ["known","numbers"] (aN Ce):=iR
abbrev lK:Stmt:=top 96
theorem lM:bh ["issues","call","numbers","file"] ["issues","call","numbers"] (aN lK):=iR
abbrev lN:Stmt:=top 97
theorem sY:bh ["known","call","number","line_number"] ["known","call","number","line_number"] (aN lN):=iR
abbrev kP:Stmt:=top 98
theorem iu:bh ["known","call","numbers","number","issue"] ["known","call","numbers"] (aN kP):=iR
abbrev mQ:Stmt:=top 99
theorem uv:bh ["known","call","numbers","listed"] ["known","call","numbers","listed"] (aN mQ):=iR
abbrev mR:Stmt:=top 100
theorem jf:bh ["issues","call","issue"] ["issues","call"] (aN mR):=iR
abbrev rB:Stmt:=top 101
theorem mS:bh ["call","numbers","number","bounds"] ["call","numbers"] (aN rB):=iR
abbrev Fo:Stmt:=top 102
theorem zZ:bh ["known","call","numbers","listed","byte"] ["known","call","numbers","listed"] (aN Fo):=iR
abbrev l7:Stmt:=top 103
theorem fK:bh ["calls","known","told","at","call","behind_numbers","numbers","listed","answered"] ["calls"] (aN l7):=iR
structure gQ (K:PySem.W.Frag) (mg:Str->Option Value) (A:Ad):Prop where
 bn:Bn mg
 Zh:mg "str"=none
 Wi:mg "list"=none
 Wj:mg "set"=none
 kF:wU K A.eV A.M5 (some (.ref A.De))
 vK:wU K A.qV A.S6 none
 Wk:A.eV≠A.qV
 yD:XH K A.M5 "place"
 sF:mg "Fault"=some (.ref A.eV)
 Dj:mg "WrongClose"=some (.ref A.qV)
 bE:Gv K A.b5
 eE:Gv K A.gg
 kh:Gv K A.cLine
 dh:Gv K A.k9
 yE:gA K A.b5 "words"
 Fp:gA K A.b5 "length"
 HB:gA K A.b5 "at"
 w6:gA K A.gg "verb"
 rC:gA K A.gg "file"
 vL:gA K A.gg "fields"
 z0:gA K A.cLine "aim"
 oK:gA K A.cLine "simple"
 gr:gA K A.k9 "number"
 Cf:gA K A.k9 "day"
 yF:gA K A.k9 "lines"
 Dl:gA K A.k9 "text"
 PY:GT K mg "CALLS_WITH_BYTES" [0,1,12,17]
 M9:GT K mg "CALLS_WITH_LIST" [0,1,12,16,17]
 Tc:GT K mg "CALLS_ABOUT_FILE" [4,5,7,8,9,13]
 PZ:GT K mg "CALLS_ABOUT_ISSUE" [10,11,14,15,18]
 Td:GT K mg "CALLS_ABOUT_LINE" [10,11]
 Fq:GR K mg
 z9:jv K mg "placed_lines" qW ["issues"]
 pH:jv K mg "standing_corrections" jC ["lines"]
 pI:jv K mg "deciding_corrections" jD ["lines"]
 uw:jv K mg "lines_in_the_end" mH ["issues"]
 KH:jv K mg "gaps_of" Cc ["issues"]
 KI:jv K mg "is_sure" Cd ["issues","file"]
 P0:Wh K A.De "Fault.__init__" vz ["self","place"]
 HC:jv K mg "bytes_of" zW ["signs"]
 HD:jv K mg "words_of" Hx ["text"]
 Aa:jv K mg "is_digit" Hy ["byte"]
 Ft:jv K mg "is_number" Fd ["word"]
 Fv:jv K mg "number_of" Fe ["word"]
 HE:jv K mg "is_value" Hz ["word"]
 Na:Hw K mg A.b5 "Reader" "Reader.__init__" tS ["self","text"]
 Te:yo K A.b5 "Reader.here" "here" tT ["self"]
 Dm:yo K A.b5 "Reader.all_passed" "all_passed" lG ["self"]
 Tf:yo K A.b5 "Reader.word" "word" tU ["self"]
 Tg:yo K A.b5 "Reader.sees" "sees" tV ["self","name"]
 P1:yo K A.b5 "Reader.finds" "finds" qX ["self","name"]
 Fw:yo K A.b5 "Reader.read_name" "read_name" mJ ["self","name"]
 Bx:yo K A.b5 "Reader.read_number" "read_number" kL ["self","least","greatest"]
 Dn:yo K A.b5 "Reader.read_value" "read_value" lH ["self"]
 HF:yo K A.b5 "Reader.read_end" "read_end" nG ["self"]
 Nb:Hw K mg A.gg "Simple" "Simple.__init__" tW ["self","verb","file","fields"]
 Th:Hw K mg A.cLine "Line" "Line.__init__" xF ["self","aim","simple"]
 P4:Hw K mg A.k9 "Issue" "Issue.__init__" vB ["self","number","day","lines","text"]
 Ab:jv K mg "check_number" qY ["text"]
 Fx:jv K mg "read_file" xG ["reader"]
 rD:jv K mg "read_rising_fields" kO ["reader"]
 By:jv K mg "read_simple" tX ["reader"]
 HG:jv K mg "read_aim" zY ["reader","number","line_number"]
 Fy:jv K mg "read_line" xH ["reader","number","line_number"]
 Dq:jv K mg "read_lines" vC ["reader","number"]
 ux:jv K mg "read_lines_alone" mK ["text","number"]
 Dr:jv K mg "read_issue" vE ["text"]
 Ac:jv K mg "issues_up_to" qZ ["issues","number"]
 Ti:jv K mg "work" M6 ["files","simple"]
 Ae:jv K mg "files_behind" rf ["issues","number"]
 Fz:jv K mg "record_of" xK ["files","file"]
 sZ:jv K mg "files_that_differ" lJ ["here","there"]
 yp:jv K mg "written_issue" p8 ["number","day","lines_text"]
 w9:jv K mg "written_simple" oJ ["simple"]
 FA:jv K mg "all_files" xM ["issues"]
 Ds:jv K mg "tell_files" vF ["issues"]
 BA:jv K mg "tell_record" tY ["issues","file"]
 Dt:jv K mg "tell_value" vG ["issues","file","code"]
 FE:jv K mg "tell_sure" xN ["issues","file"]
 BB:jv K mg "tell_behind" tZ ["issues","file","number"]
 FF:jv K mg "tell_then" xO ["issues","file","number"]
 uy:jv K mg "tell_simple_line" mO ["lines","place"]
 FG:jv K mg "tell_line" xP ["issues","place"]
 FH:jv K mg "tell_aims" xR ["issues","aimed"]
 FI:jv K mg "tell_last" xS ["issues"]
 Af:jv K mg "tell_history" rj ["issues","file"]
 Ag:jv K mg "tell_without" rq ["issues","numbers"]
 BC:jv K mg "tell_search" t6 ["issues","code","value"]
 Ah:jv K mg "known_issues" rA ["known"]
 Du:jv K mg "days_clash" vI ["known","issue"]
 FJ:jv K mg "add_issue" xT ["known","issue"]
 Tj:jv K mg "take" M7 ["known","text"]
 P5:jv K mg "judge" Je ["text"]
 nE:jv K mg "write" Jg ["number","day","lines_text"]
 Tn:jv K mg "lose" M8 ["known","number"]
 KJ:jv K mg "without" Ce ["known","numbers"]
 tu:jv K mg "answer_about_file" lK ["issues","call","numbers"]
 tw:jv K mg "answer_about_line" lN ["known","call","number","line_number"]
 rE:jv K mg "answer_about_issue" kP ["known","call","numbers"]
 uz:jv K mg "answer_with_list" mQ ["known","call","numbers","listed"]
 uA:jv K mg "answer_about_all" mR ["issues","call"]
 Ai:jv K mg "out_of_range" rB ["call","numbers"]
 Nc:jv K mg "answer" Fo ["known","call","numbers","listed"]
 KL:jv K mg "answers" l7 ["calls"]
 P6:GI mg "BLANK" (32)
 HH:GI mg "LINE_END" (10)
 KN:GI mg "DIGIT_0" (48)
 KO:GI mg "DIGIT_9" (57)
 HJ:GI mg "LETTER_A" (97)
 HK:GI mg "LETTER_Z" (122)
 BD:GI mg "MOST_DIGITS" (6)
 uB:GI mg "MOST_VALUE_BYTES" (12)
 pJ:GI mg "MOST_LINES" (40)
 oM:GI mg "GREATEST_ISSUE" (99)
 Aj:GI mg "GREATEST_DAY" (100000)
 yq:GI mg "GREATEST_FILE" (999)
 vM:GI mg "LEAST_CODE" (10)
 p9:GI mg "GREATEST_CODE" (99)
 qb:GI mg "CHECK_DIVISOR" (9973)
 HL:GI mg "NO_FIELD" (-8)
 Ak:GI mg "OUT_OF_RANGE" (-3)
 KP:GI mg "NO_BYTE" (-1)
 xV:GI mg "NOT_KNOWN" (-5)
 Jh:GI mg "FAULT" (-1000)
 pK:GI mg "WRONG_COUNT_OR_CHECK" (-2)
 Al:GI mg "WRONG_ISSUES" (-4)
 Dv:GI mg "OTHER_TEXT" (-6)
 tD:GI mg "DAYS_OUT_OF_ORDER" (-7)
 vN:GI mg "TOO_MANY_ISSUES" (-9)
 t7:GI mg "MOST_ISSUES" (24)
theorem gQ.cn{K:PySem.W.Frag}{mg:Str->Option Value}{A:Ad}(T:gQ K mg A):Cn mg:=⟨T.P6,T.HH,T.KN,T.KO,T.HJ,T.HK,T.BD,T.uB⟩
open Vbptan (Word cut)
theorem Dy{K:PySem.W.Frag}{H:Hp} :∀ns:List Int,zj K H (ns.map V.int) (ns.map PyData.int)
 |[]=>.nil
 |n::ns=>.cons (.int n) (Dy ns)
theorem Am:∀ns ms:List Int,PyData.eqvAll (ns.map PyData.int) (ms.map PyData.int)=decide (ns=ms)
 |[],[]=>by simp[PyData.eqvAll]
 |[],_::_=>by simp[PyData.eqvAll]
 |_::_,[]=>by simp[PyData.eqvAll]
 |a::r,b::t=>by
  simp only[aV,PyData.eqvAll,PyData.eqv,Am r t];by_cases h:a=b<;>by_cases h':r=t<;>simp[h,h']
theorem Dz:∀ns:List Int,PyData.canLayAll0 (ns.map PyData.int)=true
 |[]=>rfl
 |_::r=>by simp[PyData.canLayAll0,PyData.canLay0,Dz r]
theorem DA:∀ns:List Int,PyData.depthAll (ns.map PyData.int)=0
 |[]=>rfl
 |_::r=>by simp[PyData.depthAll,PyData.depth,DA r]
theorem Nd(ns:List Int):SeqAt.shaped (.list (ns.map PyData.int))=true:=by
 simp[SeqAt.shaped,PyData.canLay0,PyData.depth,Dz,DA]
theorem P7(ns:List Int):SeqAt.shaped (.tuple (ns.map PyData.int))=true:=by
 simp[SeqAt.shaped,PyData.canLay0,PyData.depth,Dz,DA]
inductive Dk where
 |dY
 |lst (ns:List Int)
 |tup (ns:List Int)
 deriving DecidableEq
def DB(K:PySem.W.Frag)(H:Hp)(v:V):Dk->Prop
 | .dY=>v=.dY
 | .lst ns=>∃a,v=.ref a/\cI K H a (ns.map V.int)
 | .tup ns=>∃a,v=.ref a/\lD K H a (ns.map V.int)
def Dk.data:Dk->PyData
 | .dY=>.none
 | .lst ns=>.list (ns.map PyData.int)
 | .tup ns=>.tuple (ns.map PyData.int)
theorem DB.dp{K:PySem.W.Frag}{H:Hp}{v:V} :∀{d:Dk},DB K H v d->Dp K H v d.data
 | .dY,h=>by cases h;exact .dY
 | .lst ns,⟨a,e,h⟩=>by subst e;exact .lst h (Dy ns)
 | .tup ns,⟨a,e,h⟩=>by subst e;exact .tup h (Dy ns)
theorem Dk.shaped:∀d:Dk,SeqAt.shaped d.data=true
 | .dY=>by rfl
 | .lst ns=>Nd ns
 | .tup ns=>P7 ns
theorem Dk.eqv:∀d e:Dk,PyData.eqv d.data e.data=decide (d=e)
 | .dY,.dY=>by simp[Dk.data,PyData.eqv]
 | .dY,.lst _=>by simp[Dk.data,PyData.eqv]
 | .dY,.tup _=>by simp[Dk.data,PyData.eqv]
 | .lst _,.dY=>by simp[Dk.data,PyData.eqv]
 | .lst a,.lst b=>by simp[Dk.data,PyData.eqv,Am]
 | .lst _,.tup _=>by simp[Dk.data,PyData.eqv]
 | .tup _,.dY=>by simp[Dk.data,PyData.eqv]
 | .tup _,.lst _=>by simp[Dk.data,PyData.eqv]
 | .tup a,.tup b=>by simp[Dk.data,PyData.eqv,Am]
def Wl(K:PySem.W.Frag):R2:=fun x y H Q=>∃d e,DB K H x d/\DB K H y e/\Q (.bl (decide (d=e))) H
def Wm(K:PySem.W.Frag):R2:=fun x y H Q=>∃d e,DB K H x d/\DB K H y e/\Q (.bl (!decide (d=e))) H
section
variable{X:Cx}
theorem DC(hu:X.A.units+64<cLine):ug X (compareOp .Eq) (Wl X.K):=fun pins s σ H x y v u Q I rx ry ⟨d,e,h1,h2,q⟩=>
 Sd hu pins s σ H x y v u Q I rx ry ⟨_,_,h1.dp,h2.dp,d.shaped,e.shaped,by rw[Dk.eqv];exact q⟩
theorem To(hu:X.A.units+64<cLine):ug X (compareOp .NotEq) (Wm X.K):=fun pins s σ H x y v u Q I rx ry ⟨d,e,h1,h2,q⟩=>
 Se hu pins s σ H x y v u Q I rx ry ⟨_,_,h1.dp,h2.dp,d.shaped,e.shaped,by rw[Dk.eqv];exact q⟩
end
theorem Ji(w:List Nat):zs w=(w.map fun c:Nat=>(c:Int)).map V.int:=by rw[cX];rfl
theorem AZ{u w:List Nat} :(u.map fun c:Nat=>(c:Int))=(w.map fun c:Nat=>(c:Int))↔u=w:=
 ⟨fun h=>(List.map_inj_right (fun _ _ z=>Int.ofNat.inj z)).mp h,fun h=>by rw[h]⟩
theorem An{K:PySem.W.Frag}{H:Hp}{a:Addr}{w:List Nat}(h:cI K H a (zs w)):DB K H (.ref a) (.lst (w.map fun c:Nat=>(c:Int))):=⟨a,rfl,by rw[<- Ji];exact h⟩
theorem Nf{u w:List Nat} :decide (Dk.lst (u.map fun c:Nat=>(c:Int))=Dk.lst (w.map fun c:Nat=>(c:Int)))=decide (u=w):=by
 rw[decide_eq_decide];exact⟨fun h=>AZ.mp (Dk.lst.inj h),fun h=>by rw[h]⟩
section
variable{P:Program}{w:World}{K:PySem.W.Frag}{mg:Str->Option Value}{base:Heap}{A:Ad}{CX:nZ}
theorem KQ(T:gQ K mg A):Fn P w K mg base ig 2 "is_number" ["word"] (Fc K):=by
 obtain⟨fD,PR,FD,bD,mD⟩:=T.Aa;exact T.Ft.fn fun f fd F=>KD F T.cn T.bn FD bD mD
theorem FL(T:gQ K mg A):Fn P w K mg base ig 1 "number_of" ["word"] (Dc K):=T.Fv.fn fun f fd F=>MY F T.cn
theorem Ng(T:gQ K mg A):Fn P w K mg base ig 2 "is_value" ["word"] (Jb K):=by
 obtain⟨fD,PR,FD,bD,mD⟩:=T.Aa;exact T.HE.fn fun f fd F=>MZ F T.cn T.bn FD bD mD
theorem Nh(T:gQ K mg A):Fn P w K mg base ig 1 "words_of" ["text"] (Jc K):=T.HD.fn fun f fd F=>M3 F T.cn T.bn
abbrev bs(x:Str):List Nat:=x.cps.toList
def tE(xs:List V)(H:Hp)(Q:VK):Prop:=∀H' l,H l=none->bF H H'->H' l=some (.lst xs)->Q (.ref l) H'
def P8:Sp:=fun vs H Q _=>∃x:Str,vs=[.str x]/\x.cps.size<=10000/\tE (zs (bs x)) H Q
theorem rF(T:gQ K mg A):Fn P w K mg base ig 1 "bytes_of" ["signs"] P8:=T.HC.fn fun f fd F=>by
 refine F.ok ur (fun vs H Q E h=>?_) (fun cdv A outer s H vs Q E hr h=>?_)
 ·obtain⟨x,rfl,_⟩:=h;rfl
 ·obtain⟨x,rfl,hl,k⟩:=h;refine⟨_,aD (aW (oB (own:=[("sign",1)]) rfl ur.nd (Su (pv 0)) (fM (by kernel_rfl)) (fun _ _ _ _ _=>b8 (i:=1) ur.nd rfl (Or.inl rfl)) (fun _ _ _ _ _=>lU)
    (fun _ _ _ _ _=>eU LN rfl T.bn.Ze PyProof.Rows.Boot.«ord» (ah (pv 1) aA)))),?_⟩
  refine⟨_,rfl,x,rfl,fun D hD=>?_⟩;refine S3 (x:=x) (fun i H'=>bF H H'/\H' D=some (.lst (zs ((bs x).take i)))) ⟨aO hD,aj⟩ (fun i c H' hi ⟨z1,z2⟩=>?_) (fun H' ⟨z1,z2⟩=>?_)
  ·refine⟨rfl,_,rfl,_,rfl,rfl,_,z2,?_,fun b o e=>?_,?_⟩
   ·rw[cF,b4];exact cM (Nat.min_le_right _ _) (by show(x.cps.toList).length<2 ^ 24;rw[aJ];omega)
   ·rw[aI (aS e hD)];exact z1 b o e
   ·have hc:(bs x)[i]? =some c:=by show x.cps.toList[i]? =_;rw[jT];exact hi
    have e2:(bs x).take (i+1)=(bs x).take i++[c]:=by rw[kU,hc];rfl
    rw[aj,e2];show _=some (HO.lst (List.map _ _));rw[aX];rfl
  ·have e:(bs x).take x.cps.size=bs x:=bN (by show(x.cps.toList).length<=_;rw[aJ];exact aq _);rw[e]at z2;exact k H' D hD z1 z2
def yG(A:Ad):Sp:=fun vs H Q _=>∃(a:Addr) (p:Int),vs=[.ref a,.int p]/\H a=some (wV a A.eV none)/\∀d,H d=none->d≠a->Q .dY (upd (upd H d (.xd [("place",.int p)])) a (wV a A.eV (some d)))
theorem Ni(T:gQ K mg A):∃fd,jz P w K mg base ig 1 A.De fd ["self","place"] (yG A)/\jn K fd ["self","place"] []/\PySem.W.isFn K (.ref A.De)=true:=by
 obtain⟨fd,F,b,fn⟩:=T.P0;refine⟨fd,?_,b,fn⟩;refine F.ok Df (fun vs H Q E h=>?_) (fun cdv A' outer s H vs Q E hr h=>?_)
 ·obtain⟨a,p,rfl,_⟩:=h;rfl
 ·obtain⟨a,p,rfl,ha,k⟩:=h;refine⟨_,aD (PD (pv 0) (pv 1) rfl),?_⟩;exact⟨_,rfl,_,rfl,a,_,_,_,rfl,ha,T.kF,T.yD,k⟩
theorem rG{X:Cx}{E:XK}{e:Expr}{te:TE}{j:Nat}{np cpos pos:Pos}(T:gQ X.K X.mg A)(hr:iC j X.A)(hx:Hr X E)(he:PE X e te)(hj:2<=j:=by decide)(hg:Gl X "Fault":=by rfl)
  (hs:starEach [e] X.env=(false,eval e X.env)::starEach [] X.env:=by rfl):PS X (.Raise (some (.Call (.Name "Fault" np) [e] [] cpos)) none pos) (IY A.eV (yG A) [] E (cE te fW)):=by
 obtain⟨fd,F,b,fn⟩:=Ni (P:=X.prog) (w:=X.w) (base:=X.base) T;exact Kx (np:=np) (cpos:=cpos) (pos:=pos) T.kF fn F (hr.mono hj) b .nil hx hg T.sF (ah he aA hs) (he:=hs)
def Flt(A:Ad)(E:XK)(p:Int)(H:Hp):Prop:=∀d H',bF H H'->H' d=some (.xd [("place",.int p)])->E (.ref A.eV) (some d) H'
theorem rH{H1:Hp}{E:XK}{p:Int}(k:Flt A E p H1):([V.int p]).length<=sizeLine/\∀a,H1 a=none->
  yG A (.ref a::([V.int p]++[])) (upd H1 a (wV a A.eV none)) (fun v H2=>v=.dY/\∃xd,H2 a=some (wV a A.eV xd)/\E (.ref A.eV) xd (wA H2 a)) E0:=by
 refine⟨by show 1<=sizeLine;decide,fun a ha=>⟨a,p,rfl,aj,fun d hd na=>⟨rfl,some d,aj,k d _ (fun b o e=>?_) ?_⟩⟩⟩
 ·have nb:b≠a:=aS e ha;rw[ja nb,aI nb,aI (fun z=>by rw[<- z,aI nb]at hd;rw[hd]at e;cases e),aI nb];exact e
 ·rw[ja na,aI na,aj]
end
structure nq (A:Ad) (G H:Hp) (r:Addr) (t:List Nat) (i:Nat):Prop where
 Rk:G r≠none
 sub:∀b,G b≠none->H b≠none
 few:t.length<=2000
 le:i<=(cut 0 t).length
 at_:∃dx lw ts,H r=some (.ins A.b5 dx [("words",.ref lw),("length",.int (t.length:Nat)),("at",.int (i:Nat))])/\jB (less H G) lw ts (cut 0 t++[(t.length,[])])
def wd(t:List Nat)(i:Nat):Word:=((cut 0 t).drop i).headD (t.length,[])
theorem Wn{t:List Nat}{i:Nat}(h:i<=(cut 0 t).length):(cut 0 t++[(t.length,[])])[i]? =some (wd t i):=by
 unfold wd;by_cases hl:i<(cut 0 t).length
 ·rw[List.getElem?_append_left hl,dX hl,aM hl];rfl
 ·have e:i=(cut 0 t).length:=by omega
  rw[e,lA,List.getElem?_append_right (aq _),yO];rfl
theorem sI{G H H':Hp}{r:Addr}{o:HO}(sub:∀b,G b≠none->H b≠none)(s:SameBut r H H')(hr:H' r=some o):∀b,G b≠none->H' b≠none:=fun b hb=>by
 by_cases e:b=r
 ·rw[e,hr];intro z;cases z
 ·cases q:H b with
  |none=>exact absurd q (sub b hb)
  |some u=>rw[s b u q e];intro z;cases z
theorem nq.same{A:Ad}{G H H':Hp}{r:Addr}{t:List Nat}{i:Nat}(R:nq A G H r t i)(s:bF H H'):nq A G H' r t i:=by
 refine aR fun Pz pz=>?_;obtain⟨h0,h1,h2,h3,dx,lw,ts,e,W⟩:=R;refine pz ?_;exact⟨h0,sI h1 (s.but (l:=r)) (s _ _ e),h2,h3,dx,lw,ts,s _ _ e,W.same (gq (s.but (l:=r)) h0)⟩
theorem nq.word{A:Ad}{G H:Hp}{r:Addr}{t:List Nat}{i:Nat}(R:nq A G H r t i):∃dx lw ts p b,H r=some (.ins A.b5 dx [("words",.ref lw),("length",.int (t.length:Nat)),("at",.int (i:Nat))])/\
  H lw=some (.lst (List.map V.ref ts))/\ts[i]? =some p/\H p=some (.tup [.int ((wd t i).1:Nat),.ref b])/\less H G b=some (.lst (zs (wd t i).2))/\ts.length=(cut 0 t).length+1:=by
 refine aR fun Pz pz=>?_;obtain⟨dx,lw,ts,e,W⟩:=R.at_;refine pz ?_;refine aR fun Pz pz=>?_;obtain⟨p,hp,b,nb,hb,hb2⟩:=wX W.all (Wn R.le);refine pz ?_;refine⟨dx,lw,ts,p,b,e,d8 W.lst,hp,d8 hb,hb2,?_⟩;rw[bg W.all,au];rfl
theorem nq.step{A:Ad}{G H:Hp}{r:Addr}{t:List Nat}{i dx:Nat}{lw:Addr}(R:nq A G H r t i)(e:H r=some (.ins A.b5 dx [("words",.ref lw),("length",.int (t.length:Nat)),("at",.int (i:Nat))]))(h:i<(cut 0 t).length):
  nq A G (upd H r (.ins A.b5 dx [("words",.ref lw),("length",.int (t.length:Nat)),("at",.int ((i:Nat)+1:Int))])) r t (i+1):=by
 refine aR fun Pz pz=>?_;obtain⟨h0,h1,h2,h3,Q0,lw',ts,e',W⟩:=R;refine pz ?_;have q:=e.symm.trans e';injection q with q
 injection q with _ q2 q3;injection q3 with q4;injection q4 with _ q5;injection q5 with q5;subst q2 q5;exact⟨h0,sI h1 (d7 (l:=r)) aj,h2,h,dx,lw,ts,aj,W.same (gq d7 h0)⟩
section
variable{P:Program}{w:World}{K:PySem.W.Frag}{mg:Str->Option Value}{base:Heap}{A:Ad}{CX:nZ}
def Nj(A:Ad):Sp:=fun vs H Q _=>∃G r t i,vs=[.ref r]/\nq A G H r t i/\Q (.int ((wd t i).1:Nat)) H
theorem pL(T:gQ K mg A):Lx P w K mg base ig 1 A.b5 "here" ["self"] (Nj A):=T.Te.fn fun f fd F=>by
 refine F.ok Br (fun vs H Q E h=>?_) (fun cdv A' outer s H vs Q E hr h=>?_)
 ·obtain⟨G,r,t,i,rfl,_⟩:=h;rfl
 ·obtain⟨G,r,t,i,rfl,R,k⟩:=h;refine⟨_,aD (aW (fJ iQ (fJ gR (bY (pv 0) rfl) (bY (pv 0) rfl) (fun _ _=>rfl)) aY (fun _ _=>rfl))),?_⟩;refine aR fun Pz pz=>?_;obtain⟨dx,lw,ts,p,b,e,hl,hp,h1,h2,_⟩:=R.word;refine pz ?_;have Wo:(ts.map V.ref)[i]? =some (.ref p):=by rw[bf,hp];rfl
  exact⟨_,rfl,r,_,dx,_,_,rfl,e,T.bE,T.yE,rfl,_,rfl,r,_,dx,_,_,rfl,e,T.bE,T.HB,rfl,lw,_,_,_,rfl,rfl,cI.of hl,cB Wo,p,_,_,_,rfl,rfl,lD.of h1,cB (j:=0) rfl,k⟩
def Tp(A:Ad):Sp:=fun vs H Q _=>∃G r t i,vs=[.ref r]/\nq A G H r t i/\∀b,less H G b=some (.lst (zs (wd t i).2))->Q (.ref b) H
theorem DE(T:gQ K mg A):Lx P w K mg base ig 1 A.b5 "word" ["self"] (Tp A):=T.Tf.fn fun f fd F=>by
 refine F.ok Bs (fun vs H Q E h=>?_) (fun cdv A' outer s H vs Q E hr h=>?_)
 ·obtain⟨G,r,t,i,rfl,_⟩:=h;rfl
 ·obtain⟨G,r,t,i,rfl,R,k⟩:=h;refine⟨_,aD (aW (fJ iQ (fJ gR (bY (pv 0) rfl) (bY (pv 0) rfl) (fun _ _=>rfl)) aY (fun _ _=>rfl))),?_⟩;refine aR fun Pz pz=>?_;obtain⟨dx,lw,ts,p,b,e,hl,hp,h1,h2,_⟩:=R.word;refine pz ?_;have Wo:(ts.map V.ref)[i]? =some (.ref p):=by rw[bf,hp];rfl
  exact⟨_,rfl,r,_,dx,_,_,rfl,e,T.bE,T.yE,rfl,_,rfl,r,_,dx,_,_,rfl,e,T.bE,T.HB,rfl,lw,_,_,_,rfl,rfl,cI.of hl,cB Wo,p,_,_,_,rfl,rfl,lD.of h1,cB (j:=1) rfl,k b h2⟩
def Nk(A:Ad):Sp:=fun vs H Q _=>∃G r t i,vs=[.ref r]/\nq A G H r t i/\Q (.bl (decide ((wd t i).1=t.length))) H
theorem pM{n m:Nat} :decide (V.int (n:Int)=V.int (m:Int))=decide (n=m):=by
 rw[decide_eq_decide];exact⟨fun h=>by injection h with h;exact Int.ofNat_inj.mp h,fun h=>by rw[h]⟩
theorem Cg(T:gQ K mg A):Lx P w K mg base ig 2 A.b5 "all_passed" ["self"] (Nk A):=T.Dm.fn fun f fd F=>by
 refine F.ok sX (fun vs H Q E h=>?_) (fun cdv A' outer s H vs Q E hr h=>?_)
 ·obtain⟨G,r,t,i,rfl,_⟩:=h;rfl
 ·obtain⟨G,r,t,i,rfl,R,k⟩:=h;refine⟨_,aD (aW (Iu gk (jb (pL T) T.bE hr bx (pv 0)) (bY (pv 0) rfl) (bM _))),?_⟩;refine aR fun Pz pz=>?_;obtain⟨dx,lw,ts,p,b,e,hl,hp,h1,h2,_⟩:=R.word;refine pz ?_;refine⟨_,rfl,r,dx,_,rfl,e,rfl,G,r,t,i,rfl,R,_,rfl,r,_,dx,_,_,rfl,e,T.bE,T.Fp,rfl,rfl,?_⟩;rw[pM];exact k
def Tq(A:Ad):Sp:=fun vs H Q _=>∃G r t i x,vs=[.ref r,.str x]/\nq A G H r t i/\x.cps.size<=10000/\∀H',bF H H'->Q (.bl (decide ((wd t i).2=bs x))) H'
theorem DF(T:gQ K mg A):Lx P w K mg base ig 2 A.b5 "sees" ["self","name"] (Tq A):=T.Tg.fn fun f fd F=>by
 refine F.ok Bt (fun vs H Q E h=>?_) (fun cdv A' outer s H vs Q E hr h=>?_)
 ·obtain⟨G,r,t,i,x,rfl,_⟩:=h;rfl
 ·obtain⟨G,r,t,i,x,rfl,R,hx,k⟩:=h;refine⟨_,aD (aW (Iu (DC hr.units) (jb (DE T) T.bE hr bx (pv 0)) (bI (rF T) hr bx (ah (pv 1) aA)) (bM _))),?_⟩;refine aR fun Pz pz=>?_;obtain⟨dx,lw,ts,p,b,e,hl,hp,h1,h2,_⟩:=R.word;refine pz ?_;refine⟨_,rfl,r,dx,_,rfl,e,rfl,G,r,t,i,rfl,R,fun b hb=>⟨_,rfl,x,rfl,hx,fun H' l hl sm el=>⟨_,_,An (cI.of (sm _ _ (d8 hb))),An (cI.of el),?_⟩⟩⟩;rw[Nf];exact k H' sm
def P9(A:Ad):Sp:=fun vs H Q _=>∃G r t i x,vs=[.ref r,.str x]/\nq A G H r t i/\x.cps.size<=10000/\bs x≠[]/\
 ((wd t i).2=bs x->∀H',SameBut r H H'->nq A G H' r t (i+1)->Q (.bl true) H')/\((wd t i).2≠bs x->∀H',bF H H'->Q (.bl false) H')
theorem Nl{t:List Nat}{i:Nat}(hi:i<=(cut 0 t).length)(h:(wd t i).2≠[]):i<(cut 0 t).length:=by
 by_cases hl:i<(cut 0 t).length
 ·exact hl
 ·have e:i=(cut 0 t).length:=by omega
  refine absurd ?_ h;unfold wd;rw[e,lA];rfl
theorem rJ(T:gQ K mg A):Lx P w K mg base ig 3 A.b5 "finds" ["self","name"] (P9 A):=T.P1.fn fun f fd F=>by
 refine F.ok zX (fun vs H Q E h=>?_) (fun cdv A' outer s H vs Q E hr h=>?_)
 ·obtain⟨G,r,t,i,x,rfl,_⟩:=h;rfl
 ·obtain⟨G,r,t,i,x,rfl,R,hx,hne,k1,k2⟩:=h;refine⟨_,ay (b7 (mw (ie (gS (DF T) T.bE hr bx (pv 0) (ah (pv 1) aA)))) (aD (aW mj)) bC)
   (ay (wF (pv 0) aY GK) (aD (aW mj))),?_⟩
  refine aR fun Pz pz=>?_;obtain⟨dx,lw,ts,p,b,e,hl,hp,h1,h2,_⟩:=R.word;refine pz ?_;refine⟨_,rfl,r,dx,_,rfl,e,rfl,_,rfl,G,r,t,i,x,rfl,R,hx,fun H' sm=>⟨_,rfl,?_⟩⟩;by_cases hw:(wd t i).2=bs x
  ·rw[aC hw];refine cg ?_;have e':=sm _ _ e;refine⟨_,rfl,r,_,dx,_,_,rfl,e',T.bE,T.HB,rfl,_,_,rfl,rfl,dx,_,e',(by show 3<1000;decide),?_⟩;exact k1 hw _ (sm.but.trans d7) ((R.same sm).step e' (Nl R.le (by rw[hw];exact hne)))
  ·rw[aK hw];exact cW (k2 hw H' sm)
end
open Vbptan (Word cut must number value numberOf isValue ahead)
def oN{α:Type}(A:Ad)(G:Hp)(r:Addr)(t:List Nat)(H:Hp)(rep:Hp->V->α->Prop)(res:Except Nat (α×List Word))(Q:VK)(E:XK):Prop:=match res with
 | .ok x=>∀v H' j,SameBut r H H'->nq A G H' r t j->(cut 0 t).drop j=x.2->rep (less H' G) v x.1->Q v H'
 | .error p=>∀d H',SameBut r H H'->H' d=some (.xd [("place",.int (p:Nat))])->E (.ref A.eV) (some d) H'
theorem vO{t:List Nat}{i:Nat}(h:i<(cut 0 t).length):(cut 0 t).drop i=wd t i::(cut 0 t).drop (i+1):=by
 unfold wd;rw[dX h];rfl
theorem oO{t:List Nat}{i:Nat}(hi:i<=(cut 0 t).length)(h:¬i<(cut 0 t).length):(cut 0 t).drop i=[]/\wd t i=(t.length,[]):=by
 have e:i=(cut 0 t).length:=by omega
 unfold wd;rw[e,lA];exact⟨rfl,rfl⟩
theorem Qa{t b:List Nat}{i:Nat}(hi:i<=(cut 0 t).length)(hb:b≠[]):must t.length b ((cut 0 t).drop i)=if(wd t i).2=b then .ok ((),(cut 0 t).drop (i+1))else .error (wd t i).1:=by
 by_cases h:i<(cut 0 t).length
 ·rw[vO h];rfl
 ·obtain⟨e1,e2⟩:=oO hi h;rw[e1,e2,ao (fun z=>hb z.symm)];rfl
theorem oQ{t b:List Nat}{i:Nat}(hi:i<=(cut 0 t).length)(hb:b≠[]):ahead b ((cut 0 t).drop i)=decide ((wd t i).2=b):=by
 by_cases h:i<(cut 0 t).length
 ·rw[vO h];show((wd t i).2==b)=_;by_cases e:(wd t i).2=b
  ·rw[aC e,Lp];exact e
  ·rw[aK e,beq_eq_false_iff_ne];exact e
 ·obtain⟨e1,e2⟩:=oO hi h;rw[e1,e2,aK (fun z=>hb z.symm)];rfl
theorem Ci{t:List Nat}{i lo hi':Nat}(hi:i<=(cut 0 t).length):number t.length lo hi' ((cut 0 t).drop i)=match numberOf lo hi' (wd t i).2 with
  |some n=>.ok (n,(cut 0 t).drop (i+1))
  |none=>.error (wd t i).1:=by
 by_cases h:i<(cut 0 t).length
 ·rw[vO h];rfl
 ·obtain⟨e1,e2⟩:=oO hi h;rw[e1,e2,kK];rw[ao (fun z=>by have q:isNum []=true:=z.1;exact absurd q (by decide))];rfl
theorem Nm{t:List Nat}{i:Nat}(hi:i<=(cut 0 t).length):value t.length ((cut 0 t).drop i)=if isValue (wd t i).2=true then .ok ((wd t i).2,(cut 0 t).drop (i+1))else .error (wd t i).1:=by
 by_cases h:i<(cut 0 t).length
 ·rw[vO h];rfl
 ·obtain⟨e1,e2⟩:=oO hi h;rw[e1,e2,ao (fun z=>by have q:isValue []=true:=z;exact absurd q (by decide))];rfl
theorem Il{t:List Nat}{i:Nat} :(wd t i).2.length<=t.length:=by
 have go:∀(p:Nat) (t:List Nat) (x:Word),x∈cut p t->x.2.length<=t.length:=by
  intro p t;induction t generalizing p with
  |nil=>intro x hx;rw[cut]at hx;rw[List.mem_singleton.mp hx];exact aq _
  |cons c r ih=>
   intro x hx;by_cases h1:c=32
   ·subst h1;rw[l5]at hx;rcases List.mem_cons.mp hx with rfl|hx
    ·exact bu _
    ·exact nV (ih _ _ hx)
   ·by_cases h2:c=10
    ·subst h2;rw[wW]at hx;rcases List.mem_cons.mp hx with rfl|hx
     ·exact bu _
     ·rcases List.mem_cons.mp hx with rfl|hx
      ·exact o8 (bu _)
      ·exact nV (ih _ _ hx)
    ·rw[l6 h1 h2]at hx;cases e:cut (p+1) r with
     |nil=>exact absurd e (zS _ _)
     |cons y l=>
      rw[e]at hx;have hx':x∈(p,[c]++y.2)::l:=hx;rcases List.mem_cons.mp hx' with rfl|hx'
      ·have:=ih (p+1) y (by rw[e];exact aL);show([c]++y.2).length<=r.length+1;rw[au];show 1+_<=_;omega
      ·exact nV (ih (p+1) x (by rw[e];exact aG _ hx'))
 unfold wd;cases e:(cut 0 t).drop i with
 |nil=>exact bu _
 |cons x l=>exact go 0 t x (List.mem_of_mem_drop (i:=i) (by rw[e];exact aL))
section
variable{P:Program}{w:World}{K:PySem.W.Frag}{mg:Str->Option Value}{base:Heap}{A:Ad}{CX:nZ}
theorem bF.OO{H H':Hp}{r:Addr}{E:XK}{p:Nat}(s:SameBut r H H')(k:∀d H',SameBut r H H'->H' d=some (.xd [("place",.int (p:Nat))])->E (.ref A.eV) (some d) H'):Flt A E (p:Nat) H':=
 fun d xW s2 e=>k d xW (s.trans s2.but) e
def Wq:Hp->V->Unit->Prop:=fun _ v _=>v=.dY
def Wr:Hp->V->Nat->Prop:=fun _ v n=>v=.int (n:Nat)
def Zi:Hp->V->List Nat->Prop:=fun H v w=>∃b,v=.ref b/\H b=some (.lst (zs w))
def Tr(A:Ad):Sp:=fun vs H Q E=>∃G r t i x,vs=[.ref r,.str x]/\nq A G H r t i/\x.cps.size<=10000/\bs x≠[]/\oN A G r t H Wq (must t.length (bs x) ((cut 0 t).drop i)) Q E
theorem pN(T:gQ K mg A):Lx P w K mg base (B8 P w) 4 A.b5 "read_name" ["self","name"] (Tr A):=T.Fw.fn fun f fd F=>by
 refine F.Kw uu (fun vs H Q E h=>?_) (fun cdv A' outer s H vs Q E hr h=>?_)
 ·obtain⟨G,r,t,i,x,rfl,_⟩:=h;rfl
 ·obtain⟨G,r,t,i,x,rfl,R,hx,hne,k⟩:=h;refine⟨_,aD (b7 (mw (ie (gS (rJ T) T.bE hr bx (pv 0) (ah (pv 1) aA))))
   (aD (rG T hr cS (jb (pL T) T.bE hr bx (pv 0)))) bC),?_⟩
  rw[Qa R.le hne]at k;refine aR fun Pz pz=>?_;obtain⟨dx,lw,ts,p,b,e,hl,hp,h1,h2,_⟩:=R.word;refine pz ?_;refine⟨_,rfl,r,dx,_,rfl,e,rfl,_,rfl,G,r,t,i,x,rfl,R,hx,hne,fun hw H' sm R'=>⟨_,rfl,cg ?_⟩,fun hw H' sm=>⟨_,rfl,cW ?_⟩⟩
  ·rw[aB hw]at k;exact k .dY H' (i+1) sm R' rfl rfl
  ·rw[ao hw]at k;exact⟨_,rfl,r,dx,_,rfl,sm _ _ e,rfl,G,r,t,i,rfl,R.same sm,rH (bF.OO sm.but k)⟩
def Rl(A:Ad):Sp:=fun vs H Q E=>∃G r t i,∃(lo hi:Nat),vs=[.ref r,.int (lo:Nat),.int (hi:Nat)]/\nq A G H r t i/\oN A G r t H Wr (number t.length lo hi ((cut 0 t).drop i)) Q E
theorem pO(T:gQ K mg A):Lx P w K mg base (B8 P w) 3 A.b5 "read_number" ["self","least","greatest"] (Rl A):=T.Bx.fn fun f fd F=>by
 refine F.Kw kM (fun vs H Q E h=>?_) (fun cdv A' outer s H vs Q E hr h=>?_)
 ·obtain⟨G,r,t,i,lo,hi,rfl,_⟩:=h;rfl
 ·obtain⟨G,r,t,i,lo,hi,rfl,R,k⟩:=h;refine⟨_,ay (bH (i:=3) kM.nd rfl (Or.inl rfl) (jb (DE T) T.bE hr bx (pv 0)))
   (ay (b7 (PW.pt (BI (mw (ie (bI (KQ T) hr bx (ah (pv 3) aA)))) (wB (mw (yZ ny ny (pv 1) (bI (FL T) hr bx (ah (pv 3) aA)) (pv 2))))))
    (aD (rG T hr cS (jb (pL T) T.bE hr bx (pv 0)))) bC)
   (ay (wF (pv 0) aY GK) (aD (aW (bI (FL T) hr bx (ah (pv 3) aA)))))),?_⟩
  rw[Ci R.le,kK]at k;refine aR fun Pz pz=>?_;obtain⟨dx,lw,ts,p,b,e,hl,hp,h1,h2,_⟩:=R.word;refine pz ?_;refine⟨_,rfl,r,dx,_,rfl,e,rfl,G,r,t,i,rfl,R,fun b hb=>?_⟩;have short:(wd t i).2.length<=2000:=aP Il R.few;have bad:¬(isNum (wd t i).2=true/\lo<=qm (wd t i).2/\qm (wd t i).2<=hi)->∀H',bF H H'->(BK A.b5 "here" (Nj A) [] E0 (cT 0) fW) [some (.ref r),some (.int (lo:Nat)),some (.int (hi:Nat)),some (.ref b)] H' fun v H1=>([v]).length<=sizeLine/\∀a,H1 a=none->
    yG A (.ref a::([v]++[])) (upd H1 a (wV a A.eV none)) (fun v H2=>v=.dY/\∃xd,H2 a=some (wV a A.eV xd)/\E (.ref A.eV) xd (wA H2 a)) E0:=fun hn H' sm=>by
   rw[ao hn]at k;exact⟨_,rfl,r,dx,_,rfl,sm _ _ e,rfl,G,r,t,i,rfl,R.same sm,rH (bF.OO sm.but k)⟩
  refine⟨_,rfl,b,_,rfl,cI.of (d8 hb),short,fun H' sm=>⟨_,rfl,?_⟩⟩;by_cases hn:isNum (wd t i).2=true
  ·rw[hn];refine cg ?_;have hb':=sm _ _ (d8 hb);have en:=PM hn;refine⟨_,rfl,_,rfl,b,_,rfl,cI.of hb',_,_,rfl,rfl,_,rfl,?_⟩;rw[en];have fin:lo<=qm (wd t i).2->qm (wd t i).2<=hi->CO (Iw K (cT 0) (tC (.int 1)) Vn "at") (sW (lF (Dc K) [] E0 (cE (cT 3) fW))) {nx:=fun _ H'=>Q .dY H',rt:=Q} [some (.ref r),some (.int (lo:Nat)),some (.int (hi:Nat)),some (.ref b)] H':=fun q1 q2=>by
    have e':=sm _ _ e;refine⟨_,rfl,r,_,dx,_,_,rfl,e',T.bE,T.HB,rfl,_,_,rfl,rfl,dx,_,e',(by show 3<1000;decide),?_⟩;refine⟨_,rfl,b,_,rfl,cI.of (d7 (l:=r) _ _ hb' (ic hb' e' (by intro z;cases z))),?_⟩;rw[aB ⟨hn,q1,q2⟩]at k;refine k _ _ (i+1) (sm.but.trans d7) ((R.same sm).step e' (Nl R.le (fun z=>by rw[z]at hn;exact absurd hn (by decide)))) rfl ?_;show V.int _=V.int _;rw[en]
   refine gm (fun h3=>?_) (fun h3=>?_)
   ·refine⟨_,rfl,_,_,rfl,rfl,_,rfl,?_⟩;by_cases h4:((qm (wd t i).2:Nat):Int)<=(hi:Int)
    ·rw[aC h4];exact cg (fin (by have:=aH h3;omega) (by omega))
    ·rw[aK h4];exact cW (bad (fun z=>h4 (by omega)) H' sm)
   ·refine⟨_,rfl,cW (bad (fun z=>h3 (aC (by omega))) H' sm)⟩
  ·rw[Bool.eq_false_iff.mpr hn];exact cW (cW (bad (fun z=>hn z.1) H' sm))
def Ws(A:Ad):Sp:=fun vs H Q E=>∃G r t i,vs=[.ref r]/\nq A G H r t i/\oN A G r t H Zi (value t.length ((cut 0 t).drop i)) Q E
theorem Nn(T:gQ K mg A):Lx P w K mg base (B8 P w) 3 A.b5 "read_value" ["self"] (Ws A):=T.Dn.fn fun f fd F=>by
 refine F.Kw lI (fun vs H Q E h=>?_) (fun cdv A' outer s H vs Q E hr h=>?_)
 ·obtain⟨G,r,t,i,rfl,_⟩:=h;rfl
 ·refine aR fun Pz pz=>?_;obtain⟨G,r,t,i,rfl,R,k⟩:=h;refine pz ?_;refine⟨_,ay (bH (i:=1) lI.nd rfl (Or.inl rfl) (jb (DE T) T.bE hr bx (pv 0)))
   (ay (b7 (mw (ie (bI (Ng T) hr bx (ah (pv 1) aA))))
    (aD (rG T hr cS (jb (pL T) T.bE hr bx (pv 0)))) bC)
   (ay (wF (pv 0) aY GK) (aD (aW (pv 1))))),?_⟩
  rw[Nm R.le]at k;refine aR fun Pz pz=>?_;obtain⟨dx,lw,ts,p,b,e,hl,hp,h1,h2,_⟩:=R.word;refine pz ?_;refine⟨_,rfl,r,dx,_,rfl,e,rfl,G,r,t,i,rfl,R,fun b hb=>?_⟩;refine⟨_,rfl,b,_,rfl,cI.of (d8 hb),fun H' sm=>⟨_,rfl,?_⟩⟩;by_cases hn:isValue (wd t i).2=true
  ·rw[hn];refine cg ?_;rw[aB hn]at k;have e':=sm _ _ e;refine⟨_,rfl,r,_,dx,_,_,rfl,e',T.bE,T.HB,rfl,_,_,rfl,rfl,dx,_,e',(by show 3<1000;decide),?_⟩;exact⟨_,rfl,k _ _ (i+1) (sm.but.trans d7) ((R.same sm).step e' (Nl R.le (fun z=>by rw[z]at hn;exact absurd hn (by decide)))) rfl ⟨b,rfl,gq (sm.but.trans d7) R.Rk _ _ hb⟩⟩
  ·rw[Bool.eq_false_iff.mpr hn];rw[ao hn]at k;exact cW ⟨_,rfl,r,dx,_,rfl,sm _ _ e,rfl,G,r,t,i,rfl,R.same sm,rH (bF.OO sm.but k)⟩
def Np(ws:List Word):Except Nat (Unit×List Word):=match ws with
 |[]=>.ok ((),[])
 |w::_=>.error w.1
def Wt(A:Ad):Sp:=fun vs H Q E=>∃G r t i,vs=[.ref r]/\nq A G H r t i/\oN A G r t H Wq (Np ((cut 0 t).drop i)) Q E
theorem Tt(T:gQ K mg A):Lx P w K mg base (B8 P w) 3 A.b5 "read_end" ["self"] (Wt A):=T.HF.fn fun f fd F=>by
 refine F.Kw vA (fun vs H Q E h=>?_) (fun cdv A' outer s H vs Q E hr h=>?_)
 ·obtain⟨G,r,t,i,rfl,_⟩:=h;rfl
 ·refine aR fun Pz pz=>?_;obtain⟨G,r,t,i,rfl,R,k⟩:=h;refine pz ?_;refine⟨_,aD (b7 (bz yV (bY (pv 0) rfl) (eB wC (fX T.bn (bY (pv 0) rfl)) aY) (bM _))
    (aD (rG T hr cS (jb (pL T) T.bE hr bx (pv 0)))) bC),?_⟩
  refine aR fun Pz pz=>?_;obtain⟨dx,lw,ts,p,b,e,hl,hp,h1,h2,h3⟩:=R.word;refine pz ?_;refine⟨_,rfl,r,_,dx,_,_,rfl,e,T.bE,T.HB,rfl,_,rfl,r,_,dx,_,_,rfl,e,T.bE,T.yE,rfl,lw,_,rfl,.inl (cI.of hl),_,_,rfl,rfl,_,_,rfl,rfl,_,rfl,?_⟩;have hl:(ts.map V.ref).length=(cut 0 t).length+1:=by rw[ai];exact h3
  rw[hl];refine gm (fun hc=>?_) (fun hc=>?_)
  ·have hc':=aH hc;rw[vO (by omega)]at k;exact⟨_,rfl,r,dx,_,rfl,e,rfl,G,r,t,i,rfl,R,rH (bF.OO (bF.refl _).but k)⟩
  ·have hc':¬((i:Int)<(((cut 0 t).length+1:Nat):Int)-1):=fun z=>hc (aC z);have:=R.le;rw[(oO R.le (by omega)).1]at k;exact k .dY H i (bF.refl _).but R (oO R.le (by omega)).1 rfl
def Nq(K:PySem.W.Frag)(A:Ad):Sp:=fun vs H Q _=>∃x dx a t,vs=[.ref x,.ref a]/\H x=some (.ins A.b5 dx [])/\cI K H a (zs t)/\t.length<=2000/\∀H',SameBut x H H'->nq A H H' x t 0->Q .dY H'
theorem qT.to{l l' t:Addr}{H H':Hp}{w:Word}(h:qT l H t w)(s:bF H H')(n:H l'=none):qT l' H' t w:=by
 obtain⟨b,nb,ht,hb⟩:=h;exact⟨b,aS hb n,s _ _ ht,s _ _ hb⟩
theorem Cj(T:gQ K mg A):U4 P w K mg base ig 2 A.b5 "Reader" ["self","text"] (Nq K A):=T.Na.fn fun f fd F=>by
 refine F.ok Bq (fun vs H Q E h=>?_) (fun cdv A' outer s H vs Q E hr h=>?_)
 ·obtain⟨x,dx,a,t,rfl,_⟩:=h;rfl
 ·refine aR fun Pz pz=>?_;obtain⟨x,dx,a,t,rfl,hx,hS,ht,k⟩:=h;refine pz ?_;refine⟨_,ay (k8 (pv 0) (eB jY (bI (Nh T) hr bx (ah (pv 1) aA)) (b6 (ah (o9 (ah (fX T.bn (pv 1)) (ah (b6 aA) aA))) aA))) rfl)
   (ay (k8 (pv 0) (fX T.bn (pv 1)) rfl) (aD (k8 (pv 0) aY rfl))),?_⟩
  refine⟨_,rfl,a,t,rfl,hS,ht,fun H1 l ts hl sm W=>?_⟩;refine⟨_,rfl,a,_,rfl,.inl (sm.seq hS),bu _,fun b hb=>⟨by show 2<=sizeLine;decide,fun p hp=>⟨by show 1<=sizeLine;decide,fun q hq=>?_⟩⟩⟩;have s1:=aO (o:=.lst []) hb;have s2:=aO (o:=.tup [.int (zs t).length,.ref b]) hp;have s3:=aO (o:=.lst [.ref p]) hq;have hlen:(cut 0 t).length<=2*t.length+1:=Ja 0 t;have hts:ts.length=(cut 0 t).length:=bg W.all;refine⟨l,q,_,_,rfl,rfl,s3 _ _ (s2 _ _ (s1 _ _ (d8 W.lst))),aj,?_,fun n hn=>?_⟩
  ·rw[ai];show ts.length+1<=2 ^ 24;omega
  have s4:=aO (o:=.lst (ts.map V.ref++[.ref p])) hn;have sA:bF H _:=sm.trans (s1.trans (s2.trans (s3.trans s4)));have SW:=sA _ _ hx;have Zj:x≠n:=aS (s3 _ _ (s2 _ _ (s1 _ _ (sm _ _ hx)))) hn;refine⟨_,rfl,x,_,dx,_,rfl,SW,T.bE,T.yE,(by show 0<1000;decide),?_⟩;have hxa:∀{xW:Hp},SameBut x H xW->cI K xW a (zs t):=fun{xW} sb=>by
   rcases hS with(h|⟨o,h⟩)|h
   ·exact .inl (.inl (sb _ _ h (ic h hx (by intro z;cases z))))
   ·exact .inl (.inr ⟨o,sb _ _ h (ic h hx (by intro z;cases z))⟩)
   ·exact .inr h
  refine⟨_,rfl,a,_,rfl,.inl (hxa (sA.but.trans d7)),_,rfl,x,_,dx,_,rfl,aj,T.bE,T.Fp,(by show 1<1000;decide),?_⟩;refine⟨_,rfl,x,_,dx,_,rfl,aj,T.bE,T.HB,(by show 2<1000;decide),?_⟩;refine k _ ?sb ⟨(by rw[hx];intro z;cases z),sI (fun b hb=>hb) ?sb aj,ht,bu _,dx,n,ts++[p],?_,?_,?_⟩
  case sb=>exact((sA.but (l:=x)).trans d7).trans (d7.trans d7)
  ·rw[aj,cF];rfl
  ·have frn:H n=none:=(sm.trans (s1.trans (s2.trans s3))).free hn;rw[cP frn,aI (bP Zj),aI (bP Zj),aI (bP Zj),aj,aX];rfl
  ·have sm5:bF (less H1 H) (less (upd (upd (upd (upd (upd (upd (upd H1 b (.lst [])) p (.tup [.int (zs t).length,.ref b])) q (.lst [.ref p])) n (.lst (ts.map V.ref++[.ref p]))) x (.ins A.b5 dx (k7 "words" (.ref n) []))) x (.ins A.b5 dx (k7 "length" (.int (zs t).length) (k7 "words" (.ref n) [])))) x (.ins A.b5 dx (k7 "at" (.int 0) (k7 "length" (.int (zs t).length) (k7 "words" (.ref n) []))))) H):=
    gq (r:=x) (((s1.trans (s2.trans (s3.trans s4))).but.trans d7).trans (d7.trans d7)) (by rw[hx];intro z;cases z)
   have nl:less H1 H n=none:=by
    unfold less;cases H n with
    |none=>exact(s1.trans (s2.trans s3)).free hn
    |some o=>rfl
   have Zk:b≠x:=fun z=>by rw[z,sm _ _ hx]at hb;cases hb
   have Zl:p≠x:=fun z=>by rw[z,s1 _ _ (sm _ _ hx)]at hp;cases hp
   refine iO (bX (fun u v h=>h.to sm5 nl) W.all) ⟨b,?_,?_,?_⟩
   ·exact aS (s3 _ _ (s2 _ _ (aj (H:=H1) (a:=b) (o:=.lst [])))) hn
   ·rw[cP ((sm.trans s1).free hp),aI Zl,aI Zl,aI Zl,s4 _ _ (s3 _ _ aj),cF]
   ·rw[cP (sm.free hb),aI Zk,aI Zk,aI Zk,s4 _ _ (s3 _ _ (s2 _ _ aj))];rfl
end
open Vbptan (Word cut must number value numberOf isValue ahead Fields Simple Line Issue NL FILES LINES)
def mT(H:Hp)(kv:Key×V)(cv:Nat×List Nat):Prop:=kv.1=Sum.inl (cv.1:Int)/\∃b,kv.2=.ref b/\H b=some (.lst (zs cv.2))
def iB(H:Hp)(d:Addr)(fs:List (Nat×List Nat)):Prop:=∃kvs,H d=some (.dK kvs)/\Paired (mT H) kvs fs
def pP:Simple->Str
 | .new _ _=>"new"
 | .set _ _ _=>"set"
 | .drop _=>"drop"
def fieldsOf:Simple->Fields
 | .new _ l=>l
 | .set _ c v=>[(c,v)]
 | .drop _=>[]
def gK(A:Ad)(H:Hp)(a:Addr)(s:Simple):Prop:=∃dx d,H a=some (.ins A.gg dx [("verb",.str (pP s)),("file",.int (Vbptan.fileOf s:Nat)),("fields",.ref d)])/\iB H d (fieldsOf s)
def t9(H:Hp)(v:V):Option (Nat×Nat)->Prop
 |none=>v=.dY
 |some p=>∃q,v=.ref q/\H q=some (.tup [.int (p.1:Nat),.int (p.2:Nat)])
def DG(A:Ad)(H:Hp)(v:V):Option Simple->Prop
 |none=>v=.dY
 |some s=>∃a,v=.ref a/\gK A H a s
def kQ:Line->Option Simple
 | .simple s=>some s
 | .fix _ s=>some s
 | .void _=>none
def ki(A:Ad)(H:Hp)(a:Addr)(l:Line):Prop:=∃dx va vs,H a=some (.ins A.cLine dx [("aim",va),("simple",vs)])/\t9 H va (Vbptan.aimOf l)/\DG A H vs (kQ l)
def lV(A:Ad)(H:Hp)(d:Addr)(ls:List Line):Prop:=∃as:List Addr,H d=some (.lst (as.map V.ref))/\Paired (ki A H) as ls
def xg(A:Ad)(H:Hp)(a tx:Addr)(I:Issue):Prop:=∃dx ls,H a=some (.ins A.k9 dx [("number",.int (I.num:Nat)),("day",.int (I.day:Nat)),("lines",.ref ls),("text",.ref tx)])/\lV A H ls I.lines
section
variable{A:Ad}{H H':Hp}{a d tx:Addr}
theorem mT.same{kv:Key×V}{cv:Nat×List Nat}(h:mT H kv cv)(s:bF H H'):mT H' kv cv:=let ⟨e,b,e1,e2⟩:=h;⟨e,b,e1,s _ _ e2⟩
theorem iB.same{fs:List (Nat×List Nat)}(h:iB H d fs)(s:bF H H'):iB H' d fs:=let ⟨kvs,e,p⟩:=h;⟨kvs,s _ _ e,bX (fun _ _ q=>q.same s) p⟩
theorem gK.same{x:Simple}(h:gK A H a x)(s:bF H H'):gK A H' a x:=let ⟨dx,d,e,f⟩:=h;⟨dx,d,s _ _ e,f.same s⟩
theorem t9.same{v:V} :∀{o:Option (Nat×Nat)},t9 H v o->bF H H'->t9 H' v o
 |none,h,_=>h
 |some p,⟨q,e,f⟩,s=>⟨q,e,s _ _ f⟩
theorem DG.same{v:V} :∀{o:Option Simple},DG A H v o->bF H H'->DG A H' v o
 |none,h,_=>h
 |some p,⟨q,e,f⟩,s=>⟨q,e,f.same s⟩
theorem ki.same{x:Line}(h:ki A H a x)(s:bF H H'):ki A H' a x:=let ⟨dx,va,vs,e,f,g⟩:=h;⟨dx,va,vs,s _ _ e,f.same s,g.same s⟩
theorem lV.same{x:List Line}(h:lV A H d x)(s:bF H H'):lV A H' d x:=let ⟨as,e,f⟩:=h;⟨as,s _ _ e,bX (fun _ _ q=>q.same s) f⟩
theorem xg.same{x:Issue}(h:xg A H a tx x)(s:bF H H'):xg A H' a tx x:=let ⟨dx,ls,e,f⟩:=h;⟨dx,ls,s _ _ e,f.same s⟩
end
theorem oN.go{α β:Type}{A:Ad}{G G1:Hp}{r:Addr}{t:List Nat}{H0 H:Hp}{rep1:Hp->V->α->Prop}{rep:Hp->V->β->Prop}{res:Except Nat (α×List Word)}{f:α×List Word->Except Nat (β×List Word)}{Q Q':VK}{E:XK}(k:oN A G r t H0 rep (res >>=f) Q E)(s0:SameBut r H0 H)
  (h:∀x ws v H' j,res=.ok (x,ws)->SameBut r H H'->nq A G1 H' r t j->(cut 0 t).drop j=ws->rep1 (less H' G1) v x->oN A G r t H0 rep (f (x,ws)) Q E->Q' v H'):oN A G1 r t H rep1 res Q' E:=by
 cases res with
 |error p=>exact fun d xW s'=>k d xW (s0.trans s')
 |ok y=>
  obtain⟨x,ws⟩:=y;intro v H' j sb R hd hv;exact h x ws v H' j rfl sb R hd hv k
section
variable{P:Program}{w:World}{K:PySem.W.Frag}{mg:Str->Option Value}{base:Heap}{A:Ad}{CX:nZ}
theorem iF{H:Hp}{x dx C:Addr}{o:HO}(nx:H x=none)(nd:H dx=none)(ne:dx≠x):bF H (upd (upd (upd H dx (.own x)) x (.ins C dx [])) x o):=fun b u e=>by
 have n1:=aS e nx;have n2:=aS e nd;rw[aI n1,aI n1,aI n2];exact e
def Nr(A:Ad):Sp:=fun vs H Q _=>∃x dx v1 v2 v3,vs=[.ref x,v1,v2,v3]/\H x=some (.ins A.gg dx [])/\Q .dY (upd H x (.ins A.gg dx [("verb",v1),("file",v2),("fields",v3)]))
theorem xh(T:gQ K mg A):U4 P w K mg base ig 1 A.gg "Simple" ["self","verb","file","fields"] (Nr A):=T.Nb.fn fun f fd F=>by
 refine F.ok Bu (fun vs H Q E h=>?_) (fun cdv A' outer s H vs Q E hr h=>?_)
 ·obtain⟨x,dx,v1,v2,v3,rfl,_⟩:=h;rfl
 ·obtain⟨x,dx,v1,v2,v3,rfl,hx,k⟩:=h;refine⟨_,ay (k8 (pv 0) (pv 1) rfl) (ay (k8 (pv 0) (pv 2) rfl) (aD (k8 (pv 0) (pv 3) rfl))),?_⟩;refine⟨_,rfl,_,rfl,x,_,dx,_,rfl,hx,T.eE,T.w6,(by show 0<1000;decide),_,rfl,_,rfl,x,_,dx,_,rfl,aj,T.eE,T.rC,(by show 1<1000;decide),_,rfl,_,rfl,x,_,dx,_,rfl,aj,T.eE,T.vL,(by show 2<1000;decide),?_⟩;rw[iX,iX];exact k
def Tu(A:Ad):Sp:=fun vs H Q _=>∃x dx v1 v2,vs=[.ref x,v1,v2]/\H x=some (.ins A.cLine dx [])/\Q .dY (upd H x (.ins A.cLine dx [("aim",v1),("simple",v2)]))
theorem DH(T:gQ K mg A):U4 P w K mg base ig 1 A.cLine "Line" ["self","aim","simple"] (Tu A):=T.Th.fn fun f fd F=>by
 refine F.ok Ff (fun vs H Q E h=>?_) (fun cdv A' outer s H vs Q E hr h=>?_)
 ·obtain⟨x,dx,v1,v2,rfl,_⟩:=h;rfl
 ·obtain⟨x,dx,v1,v2,rfl,hx,k⟩:=h;refine⟨_,ay (k8 (pv 0) (pv 1) rfl) (aD (k8 (pv 0) (pv 2) rfl)),?_⟩;refine⟨_,rfl,_,rfl,x,_,dx,_,rfl,hx,T.kh,T.z0,(by show 0<1000;decide),_,rfl,_,rfl,x,_,dx,_,rfl,aj,T.kh,T.oK,(by show 1<1000;decide),?_⟩;rw[iX];exact k
def Qc(A:Ad):Sp:=fun vs H Q _=>∃x dx v1 v2 v3 v4,vs=[.ref x,v1,v2,v3,v4]/\H x=some (.ins A.k9 dx [])/\Q .dY (upd H x (.ins A.k9 dx [("number",v1),("day",v2),("lines",v3),("text",v4)]))
theorem Nt(T:gQ K mg A):U4 P w K mg base ig 1 A.k9 "Issue" ["self","number","day","lines","text"] (Qc A):=T.P4.fn fun f fd F=>by
 refine F.ok Dg (fun vs H Q E h=>?_) (fun cdv A' outer s H vs Q E hr h=>?_)
 ·obtain⟨x,dx,v1,v2,v3,v4,rfl,_⟩:=h;rfl
 ·obtain⟨x,dx,v1,v2,v3,v4,rfl,hx,k⟩:=h;refine⟨_,ay (k8 (pv 0) (pv 1) rfl) (ay (k8 (pv 0) (pv 2) rfl) (ay (k8 (pv 0) (pv 3) rfl) (aD (k8 (pv 0) (pv 4) rfl)))),?_⟩;refine⟨_,rfl,_,rfl,x,_,dx,_,rfl,hx,T.dh,T.gr,(by show 0<1000;decide),_,rfl,_,rfl,x,_,dx,_,rfl,aj,T.dh,T.Cf,(by show 1<1000;decide),_,rfl,_,rfl,x,_,dx,_,rfl,aj,T.dh,T.yF,(by show 2<1000;decide),_,rfl,_,rfl,x,_,dx,_,rfl,aj,T.dh,T.Dl,(by show 3<1000;decide),?_⟩;rw[iX,iX,iX];exact k
def Tv(A:Ad):Sp:=fun vs H Q E=>∃G r t i,vs=[.ref r]/\nq A G H r t i/\oN A G r t H Wr (number t.length 1 FILES ((cut 0 t).drop i)) Q E
theorem DJ(T:gQ K mg A):Fn P w K mg base (B8 P w) 4 "read_file" ["reader"] (Tv A):=T.Fx.fn fun f fd F=>by
 refine F.Kw Fg (fun vs H Q E h=>?_) (fun cdv A' outer s H vs Q E hr h=>?_)
 ·obtain⟨G,r,t,i,rfl,_⟩:=h;rfl
 ·obtain⟨G,r,t,i,rfl,R,k⟩:=h;refine⟨_,aD (aW (gS (pO T) T.bE hr (eY cS) (pv 0) (ah aY (ah (dS T.yq) aA)))),?_⟩;obtain⟨dx,lw,ts,e,W⟩:=R.at_;exact⟨_,rfl,r,dx,_,rfl,e,rfl,G,r,t,i,1,999,rfl,R,k⟩
end
open Vbptan (Word cut must number value numberOf isValue ahead Fields Simple Line Issue NL FILES LINES earlier)
def gT(e:Nat):Nat->Nat->List Word->Except Nat (Fields×List Word)
 |0,_,_=>.error e
 |f+1,least,ws=>if ahead NL ws=true then .ok ([],ws)else
   number e least 99 ws >>=fun x=>value e x.2 >>=fun y=>gT e f (x.1+1) y.2 >>=fun z=>.ok ((x.1,y.1)::z.1,z.2)
def Tw(e:Nat)(ws:List Word):Except Nat (Simple×List Word):=number e 1 FILES ws >>=fun x=>gT e (x.2.length+1) 10 x.2 >>=fun z=>.ok (.new x.1 z.1,z.2)
def Wu(e:Nat)(ws:List Word):Except Nat (Simple×List Word):=number e 1 FILES ws >>=fun x=>number e 10 99 x.2 >>=fun y=>value e y.2 >>=fun z=>.ok (.set x.1 y.1 z.1,z.2)
def Nu(e:Nat)(ws:List Word):Except Nat (Simple×List Word):=number e 1 FILES ws >>=fun x=>.ok (.drop x.1,x.2)
def iG(e:Nat)(ws:List Word):Except Nat (Simple×List Word):=
 if ahead (Vbptan.W "new") ws=true then Tw e ws.tail else if ahead (Vbptan.W "set") ws=true then Wu e ws.tail else must e (Vbptan.W "drop") ws >>=fun x=>Nu e x.2
def BE(e n k:Nat)(ws:List Word):Except Nat ((Nat×Nat)×List Word):=number e 1 n ws >>=fun x=>number e 1 (if x.1=n then k-1 else LINES) x.2 >>=fun y=>.ok ((x.1,y.1),y.2)
def mU(e n k:Nat)(ws:List Word):Except Nat (Line×List Word):=
 if ahead (Vbptan.W "void") ws=true then BE e n k ws.tail >>=fun x=>.ok (.void x.1,x.2)else
 if ahead (Vbptan.W "fix") ws=true then BE e n k ws.tail >>=fun x=>must e (Vbptan.W "with") x.2 >>=fun y=>iG e y.2 >>=fun z=>.ok (.fix x.1 z.1,z.2)else
 iG e ws >>=fun x=>.ok (.simple x.1,x.2)
theorem iw{e lo hi:Nat}{ws:List Word}{x:Nat×List Word}(h:number e lo hi ws=.ok x):x.2.length+1=ws.length/\lo<=x.1:=by
 cases ws with
 |nil=>cases h
 |cons w r=>
  have h:(match numberOf lo hi w.2 with
   |some n=>Except.ok (n,r)
   |none=>Except.error w.1)=Except.ok x:=h
  split at h
  ·rename_i n hn;injection h with h
   rw[<- h];refine⟨rfl,?_⟩;rw[kK]at hn;split at hn
   ·rename_i c;injection hn with hn
    rw[<- hn];exact c.2.1
   ·cases hn
  ·cases h
theorem xj{e:Nat}{ws:List Word}{x:List Nat×List Word}(h:value e ws=.ok x):x.2.length+1=ws.length:=by
 cases ws with
 |nil=>cases h
 |cons w r=>
  have h:(if isValue w.2=true then Except.ok (w.2,r)else Except.error w.1)=Except.ok x:=h;split at h
  ·injection h with h;rw[<- h];rfl
  ·cases h
section
variable{P:Program}{w:World}{K:PySem.W.Frag}{mg:Str->Option Value}{base:Heap}{A:Ad}{CX:nZ}
def Jj:Hp->V->Fields->Prop:=fun H v fs=>∃d,v=.ref d/\iB H d fs
def Nv(A:Ad):Sp:=fun vs H Q E=>∃G r t i f,vs=[.ref r]/\nq A G H r t i/\((cut 0 t).drop i).length<f/\oN A G r t H Jj (gT t.length f 10 ((cut 0 t).drop i)) Q E
theorem Ny:bs "\n"=NL:=by rfl
theorem mT.upd{F:Hp}{d:Addr}{kvs:List (Key×V)}{o:HO}{kv:Key×V}{cv:Nat×List Nat}(hd:F d=some (.dK kvs))(h:mT F kv cv):mT (upd F d o) kv cv:=by
 obtain⟨e,b,e1,e2⟩:=h;exact⟨e,b,e1,by rw[aI (ic e2 hd (by intro z;cases z))];exact e2⟩
theorem vP{H G:Hp}{d:Addr}{o:HO}(h:G d=none):less (upd H d o) G=upd (less H G) d o:=by
 funext b;by_cases e:b=d
 ·subst e;rw[cP h,aj,aj]
 ·rw[aI e];unfold less;cases G b with
  |none=>exact aI e
  |some u=>rfl
theorem Qe{kvs:List (Key×V)}{fs:List (Nat×List Nat)}{F:Hp}{c:Nat}{v:V}(h:Paired (mT F) kvs fs)(hc:∀x∈fs,x.1≠c):putK kvs (Sum.inl (c:Int)) v=kvs++[(Sum.inl (c:Int),v)]:=by
 unfold putK;have e:(kvs.any fun kv=>decide (kv.1=Sum.inl (c:Int)))=false:=by
  rw[List.any_eq_false];intro kv hkv;have go:∀{kvs:List (Key×V)} {fs:List (Nat×List Nat)},Paired (mT F) kvs fs->kv∈kvs->∃x∈fs,kv.1=Sum.inl (x.1:Int):=by
   intro kvs fs p;induction p with
   |nil=>intro z;cases z
   |cons q _ ih=>
    intro z;rcases List.mem_cons.mp z with rfl|z
    ·exact⟨_,aL,q.1⟩
    ·obtain⟨x,hx,ex⟩:=ih z;exact⟨x,aG _ hx,ex⟩
  obtain⟨x,hx,ex⟩:=go h hkv;intro z;have z':=aH z;rw[ex]at z';injection z' with z';exact hc x hx (Int.ofNat_inj.mp z')
 rw[e];rfl
theorem KR(T:gQ K mg A):Fn P w K mg base (B8 P w) 4 "read_rising_fields" ["reader"] (Nv A):=T.rD.fn fun f fd F=>by
 refine F.Kw eW (fun vs H Q E h=>?_) (fun cdv A' outer s H vs Q E hr h=>?_)
 ·obtain⟨G,r,t,i,f,rfl,_⟩:=h;rfl
 ·refine aR fun Pz pz=>?_;obtain⟨G,r,t,i,f,rfl,R,hf,k⟩:=h;refine pz ?_;refine⟨_,ay (bH (i:=1) eW.nd rfl (Or.inl rfl) qK) (ay (bH (i:=2) eW.nd rfl (Or.inl rfl) (dS T.vM))
   (ay (yT IV (mw (ie (gS (DF T) T.bE hr bx (pv 0) (ah eK aA))))
    (ay (bH (i:=3) eW.nd rfl (Or.inl rfl) (gS (pO T) T.bE hr (eY cS) (pv 0) (ah (pv 2) (ah (dS T.p9) aA))))
    (ay (sj (eL hr) (pv 1) (pv 3) (jb (Nn T) T.bE hr (eY cS) (pv 0)) rfl)
    (aD (bH (i:=2) eW.nd rfl (Or.inl rfl) (eB k6 (pv 3) aY))))))
   (aD (aW (pv 1))))),?_⟩
  intro d hd;have Tz:G d=none:=mG R.sub hd;refine⟨fun m σ H'=>∃(i least:Nat) (v3:Option V) (acc:Fields) (kvs:List (Key×V)) (f:Nat),σ=[some (.ref r),some (.ref d),some (.int (least:Nat)),v3]/\m=((cut 0 t).drop i).length/\nq A G H' r t i/\SameBut r H H'/\H' d=some (.dK kvs)/\
    Paired (mT (less H' G)) kvs acc/\(∀x∈acc,x.1<least)/\acc.length<=least/\least<=100/\((cut 0 t).drop i).length<f/\oN A G r t H (fun F v l=>Jj F v (acc++l)) (gT t.length f least ((cut 0 t).drop i)) Q E,
   ⟨_,i,10,none,[],[],f,rfl,rfl,R.same (aO hd),(aO hd).but,aj,.nil,(fun x hx=>by cases hx),bu _,by decide,hf,k⟩,?_⟩
  intro m σ H1 hz;refine aR fun Pz pz=>?_;obtain⟨i,least,v3,acc,kvs,f,rfl,rfl,R,sb,hd1,hp,hlt,hal,hle,hf,k⟩:=hz;refine pz ?_;refine aR fun Pz pz=>?_;obtain⟨dx,lw,ts,e,W⟩:=R.at_;refine pz ?_;refine⟨_,rfl,r,dx,_,rfl,e,rfl,G,r,t,i,"\n",rfl,R,by decide,fun H2 sm=>⟨_,rfl,?_⟩⟩;obtain⟨g,rfl⟩:∃g,f=g+1:=⟨f-1,by omega⟩
  unfold gT at k;rw[oQ R.le (by decide)]at k;rw[Ny];have R2:=R.same sm;by_cases hw:(wd t i).2=NL
  ·rw[aC hw]at k ⊢;refine cg ⟨_,rfl,?_⟩;have k':oN A G r t H (fun F v l=>Jj F v (acc++l)) (.ok ([],(cut 0 t).drop i)) Q E:=k;refine k' _ H2 i (sb.trans sm.but) R2 rfl ⟨d,rfl,kvs,?_,?_⟩
   ·rw[cP Tz];exact sm _ _ hd1
   ·rw[bq];exact bX (fun _ _ q=>q.same (pF sm)) hp
  ·rw[aK hw]at k ⊢;refine cW ⟨fun σ' H'=>∃m',m'<((cut 0 t).drop i).length/\_,fun σ' H' z=>z,?_⟩;refine⟨_,rfl,r,dx,_,rfl,sm _ _ e,rfl,_,rfl,G,r,t,i,least,99,rfl,R2,(oN.go k (sb.trans sm.but) fun c ws v H3 j hc UP R3 hj hv k3=>?_)⟩;obtain rfl:v=.int (c:Nat):=hv;refine aR fun Pz pz=>?_;obtain⟨Nz,Zm,Zn,e3,W3⟩:=R3.at_;refine pz ?_;have L1:=iw hc;refine⟨_,rfl,r,Nz,_,rfl,e3,rfl,G,r,t,j,rfl,R3,?_⟩;rw[hj];refine oN.go k3 ((sb.trans sm.but).trans UP) fun vb Wv v H4 j4 hc4 Zo R4 NB TF k4=>?_;obtain⟨b,rfl,hb⟩:=TF;have L2:=xj hc4;have nd:d≠r:=fun z=>by rw[z,e]at hd1;cases hd1
   have XN:H4 d=some (.dK kvs):=Zo _ _ (UP _ _ (sm _ _ hd1) nd) nd;have acw:c<=99:=by
    rw[Ci R.le,kK]at hc;split at hc
    ·rename_i n hn;split at hn
     ·rename_i z;injection hn with hn
      injection hc with hc;injection hc with hc;omega
     ·cases hn
    ·cases hc
   have p4:Paired (mT (less H4 G)) kvs acc:=bX (fun _ _ q=>q.same (gq ((sm.but.trans UP).trans Zo) R.Rk)) hp;have hlen:kvs.length=acc.length:=bg hp;refine⟨_,rfl,_,rfl,d,_,rfl,yi.k (k:=Sum.inl (c:Int)) XN (by show kvs.length<2 ^ 24;omega),_,rfl,_,_,rfl,rfl,?_⟩;have XO:SameBut r H H4:=((sb.trans sm.but).trans UP).trans Zo;have R5:nq A G (upd H4 d (.dK (putK kvs (Sum.inl (c:Int)) (.ref b)))) r t j4:=by
    refine aR fun Pz pz=>?_;obtain⟨h0,h1,h2,h3,Q0,lw',ts',e',W'⟩:=R4;refine pz ?_;have nd4:d≠lw':=fun z=>by
     have q:=d8 W'.lst;rw[<- z,XN]at q;cases q
    refine⟨h0,sI h1 (d7 (l:=d)) aj,h2,h3,Q0,lw',ts',by rw[aI (bP nd)];exact e',?_⟩;rw[vP Tz];have Ww:less H4 G d=some (.dK kvs):=by rw[cP Tz];exact XN
    refine⟨by rw[aI (bP nd4)];exact W'.lst,bX (fun u x q=>?_) W'.all⟩;obtain⟨b',nb,ht,hb'⟩:=q;exact⟨b',nb,by rw[aI (ic ht Ww (by intro z;cases z))];exact ht,by rw[aI (ic hb' Ww (by intro z;cases z))];exact hb'⟩
   have Ww:less H4 G d=some (.dK kvs):=by rw[cP Tz];exact XN
   have L3:ws.length+1=((cut 0 t).drop i).length:=L1.1;have L4:Wv.length+1=ws.length:=L2;refine⟨_,?_,j4,c+1,_,acc++[(c,vb)],_,g,rfl,rfl,R5,fun b' o e' n=>?_,aj,?_,?_,?_,?_,?_,?_⟩
   ·rw[NB];omega
   ·rw[aI (fun z=>by rw[z]at e';rw[e']at hd;cases hd)];exact XO b' o e' n
   ·have hne:∀x∈acc,x.1≠c:=fun x hx z=>by have:=hlt x hx;have:=L1.2;omega
    rw[Qe p4 hne,vP Tz];refine iO (bX (fun _ _ q=>q.upd Ww) p4) ⟨rfl,b,rfl,?_⟩;rw[aI (ic hb Ww (by intro z;cases z))];exact hb
   ·intro x hx;rcases List.mem_append.mp hx with hx|hx
    ·have:=hlt x hx;have:=L1.2;omega
    ·rw[List.mem_singleton.mp hx];exact fC _
   ·rw[au];have:=L1.2;show acc.length+1<=c+1;omega
   ·omega
   ·rw[NB];omega
   ·rw[NB];unfold oN at k4 ⊢;cases hz:gT t.length g (c+1) Wv with
    |error p=>
     rw[hz]at k4;exact k4
    |ok z=>
     rw[hz]at k4;intro v' H' j' s' R' hd' hv';refine k4 v' H' j' s' R' hd' ?_;show Jj (less H' G) v' (acc++((c,vb)::z.1));have e9:acc++((c,vb)::z.1)=(acc++[(c,vb)])++z.1:=by rw[bw];rfl
     rw[e9];exact hv'
abbrev XQ(H:Hp)(x dx C:Addr)(o:HO):Hp:=upd (upd (upd H dx (.own x)) x (.ins C dx [])) x o
theorem xm{G H:Hp}{r x dx d:Addr}{t:List Nat}{j:Nat}{s:Simple}(R:nq A G H r t j)(nx:H x=none)(nd:H dx=none)(ne:dx≠x)(hf:iB (less H G) d (fieldsOf s)):
  nq A G (XQ H x dx A.gg (.ins A.gg dx [("verb",.str (pP s)),("file",.int (Vbptan.fileOf s:Nat)),("fields",.ref d)])) r t j/\gK A (less (XQ H x dx A.gg (.ins A.gg dx [("verb",.str (pP s)),("file",.int (Vbptan.fileOf s:Nat)),("fields",.ref d)])) G) x s:=by
 have sm:=iF (C:=A.gg) (o:=.ins A.gg dx [("verb",.str (pP s)),("file",.int (Vbptan.fileOf s:Nat)),("fields",.ref d)]) nx nd ne;exact⟨R.same sm,dx,d,by rw[cP (mG R.sub nx)];exact aj,hf.same (pF sm)⟩
def Zp(A:Ad):Hp->V->Simple->Prop:=fun F v s=>∃a,v=.ref a/\gK A F a s
def DK(A:Ad):Sp:=fun vs H Q E=>∃G r t i,vs=[.ref r]/\nq A G H r t i/\oN A G r t H (Zp A) (iG t.length ((cut 0 t).drop i)) Q E
theorem Ck(T:gQ K mg A):Fn P w K mg base (B8 P w) 5 "read_simple" ["reader"] (DK A):=T.By.fn fun f fd F=>by
 refine F.Kw kD (fun vs H Q E h=>?_) (fun cdv A' outer s H vs Q E hr h=>?_)
 ·obtain⟨G,r,t,i,rfl,_⟩:=h;rfl
 ·refine aR fun Pz pz=>?_;obtain⟨G,r,t,i,rfl,R,k⟩:=h;refine pz ?_;refine⟨_,ay (b7 (ie (gS (rJ T) T.bE hr bx (pv 0) (ah eK aA)))
    (ay (bH (i:=1) kD.nd rfl (Or.inl rfl) (bI (DJ T) hr (eY cS) (ah (pv 0) aA)))
    (aD (aW (vt (xh T) hr bx (ah eK (ah (pv 1) (ah (bI (KR T) hr (eY cS) (ah (pv 0) aA)) aA)))))))
    bC)
   (ay (b7 (ie (gS (rJ T) T.bE hr bx (pv 0) (ah eK aA)))
    (ay (bH (i:=1) kD.nd rfl (Or.inl rfl) (bI (DJ T) hr (eY cS) (ah (pv 0) aA)))
    (ay (bH (i:=2) kD.nd rfl (Or.inl rfl) (gS (pO T) T.bE hr (eY cS) (pv 0) (ah (dS T.vM) (ah (dS T.p9) aA))))
    (aD (aW (vt (xh T) hr bx (ah eK (ah (pv 1) (ah (O8 (Mf (pv 2) (jb (Nn T) T.bE hr (eY cS) (pv 0)) O7) rfl rfl (by intro z;cases z) (by show 1<=15;decide)) aA))))))))
    bC)
   (ay (f9 (gS (pN T) T.bE hr (eY cS) (pv 0) (ah eK aA)))
   (aD (aW (vt (xh T) hr bx (ah eK (ah (bI (DJ T) hr (eY cS) (ah (pv 0) aA)) (ah qK aA)))))))),?_⟩
  refine sq fun N1 n1=>?_;have Wx:bs "new"=Vbptan.W "new":=by decide +kernel
  have Wy:bs "set"=Vbptan.W "set":=by decide +kernel
  have Zq:bs "drop"=Vbptan.W "drop":=by decide +kernel
  refine aR fun Pz pz=>?_;obtain⟨dx,lw,ts,e,W⟩:=R.at_;refine pz ?_;unfold iG at k;rw[oQ R.le (by decide +kernel),oQ R.le (by decide +kernel),List.tail_drop]at k;refine⟨_,rfl,r,dx,_,rfl,e,rfl,G,r,t,i,"new",rfl,R,by decide,by decide +kernel,fun hw H1 s1 R1=>⟨_,rfl,cW (sq fun M1 m1=>?_)⟩,fun hw H1 s1=>⟨_,rfl,cg (n1 _ _ (sq fun N2 n2=>?_))⟩⟩
  ·
   rw[Wx]at hw;rw[aB (aC hw)]at k;unfold Tw at k;refine⟨_,rfl,G,r,t,i+1,rfl,R1,oN.go k s1 fun n ws v H2 j hn s2 R2 hj hv k2=>m1 _ _ ?_⟩;obtain rfl:v=.int (n:Nat):=hv;refine⟨_,rfl,_,rfl,G,r,t,j,ws.length+1,rfl,R2,by rw[hj];exact fC _,?_⟩;rw[hj];refine oN.go k2 (s1.trans s2) fun fs ws3 v H3 j3 hn3 s3 R3 KS TH k3=>?_;obtain⟨d,rfl,hf⟩:=TH;intro x Nz nx nd ne;refine⟨x,Nz,_,_,_,rfl,aj,rfl,?_⟩;obtain⟨R4,S4⟩:=xm (s:=.new n fs) R3 nx nd ne hf;exact k3 _ _ j3 (((s1.trans s2).trans s3).trans (iF nx nd ne).but) R4 KS ⟨x,rfl,S4⟩
  rw[Wx]at hw;rw[ao (fun z=>hw (aH z))]at k;have R1:=R.same s1;refine⟨_,rfl,r,dx,_,rfl,s1 _ _ e,rfl,G,r,t,i,"set",rfl,R1,by decide,by decide +kernel,fun NC H2 s2 R2=>⟨_,rfl,cW (sq fun M1 m1=>?_)⟩,fun NC H2 s2=>⟨_,rfl,cg (n2 _ _ (sq fun N3 n3=>?_))⟩⟩
  ·
   rw[Wy]at NC;rw[aB (aC NC)]at k;unfold Wu at k;have sA:=s1.but.trans s2;refine⟨_,rfl,G,r,t,i+1,rfl,R2,oN.go k sA fun n ws v H3 j3 hn s3 R3 KS hv k3=>m1 _ _ (sq fun M2 m2=>?_)⟩;obtain rfl:v=.int (n:Nat):=hv;refine aR fun Pz pz=>?_;obtain⟨Nz,Zm,Zn,e3,W3⟩:=R3.at_;refine pz ?_;refine⟨_,rfl,r,Nz,_,rfl,e3,rfl,G,r,t,j3,10,99,rfl,R3,?_⟩;rw[KS];refine oN.go k3 (sA.trans s3) fun c Wv v H4 j4 hn4 s4 R4 NB TF k4=>m2 _ _ ?_;obtain rfl:v=.int (c:Nat):=TF;refine⟨_,rfl,fun p hp=>?_⟩;have R4':=R4.same (aO (o:=.dK []) hp);refine aR fun Pz pz=>?_;obtain⟨Wz,lw4,ts4,e4,W4⟩:=R4'.at_;refine pz ?_;refine⟨_,rfl,_,rfl,r,Wz,_,rfl,e4,rfl,G,r,t,j4,rfl,R4',?_⟩;rw[NB];have sB:=((sA.trans s3).trans s4)
   refine oN.go k4 (sB.trans (aO hp).but) fun vb TM v H5 j5 hn5 s5 R5 ND Rm k5=>?_;obtain⟨b,rfl,hb⟩:=Rm;have np:p≠r:=fun z=>by rw[z,aj]at e4;cases e4
   have hp5:H5 p=some (.dK []):=s5 _ _ aj np;have Zr:G p=none:=mG R4.sub hp;refine⟨hp5,[(Sum.inl (c:Int),.ref b)],rfl,by show 1<=15;decide,?_⟩;intro x TN nx nd ne;refine⟨x,TN,_,_,_,rfl,aj,rfl,?_⟩;have Qg:less H5 G p=some (.dK []):=by rw[cP Zr];exact hp5
   have R6:nq A G (upd H5 p (.dK (uh [] [(Sum.inl (c:Int),.ref b)]))) r t j5:=by
    refine aR fun Pz pz=>?_;obtain⟨h0,h1,h2,h3,Q0,lw',ts',e',W'⟩:=R5;refine pz ?_;refine⟨h0,sI h1 (d7 (l:=p)) aj,h2,h3,Q0,lw',ts',by rw[aI (bP np)];exact e',?_⟩;rw[vP Zr];refine⟨by rw[aI (ic W'.lst Qg (by intro z;cases z))];exact W'.lst,bX (fun u x q=>?_) W'.all⟩;obtain⟨b',nb,ht,hb'⟩:=q;exact⟨b',nb,by rw[aI (ic ht Qg (by intro z;cases z))];exact ht,by rw[aI (ic hb' Qg (by intro z;cases z))];exact hb'⟩
   have hf:iB (less (upd H5 p (.dK (uh [] [(Sum.inl (c:Int),.ref b)]))) G) p (fieldsOf (.set n c vb)):=by
    rw[vP Zr];exact⟨_,aj,.cons ⟨rfl,b,rfl,by rw[aI (ic hb Qg (by intro z;cases z))];exact hb⟩ .nil⟩
   obtain⟨R7,S7⟩:=xm (s:=.set n c vb) R6 nx nd ne hf;refine k5 _ _ j5 (fun b' o e' n'=>?_) R7 ND ⟨x,rfl,S7⟩;have nb':b'≠p:=fun z=>by
    have:=sB b' o e' n';rw[z,hp]at this;cases this
   refine iF (C:=A.gg) nx nd ne b' o ?_;rw[aI nb'];exact s5 b' o (aO hp _ _ (sB b' o e' n')) n'
  ·
   rw[Wy]at NC;rw[ao (fun z=>NC (aH z))]at k;have R2:=R1.same s2;have sA:SameBut r H H2:=(s1.trans s2).but;refine⟨_,rfl,r,dx,_,rfl,s2 _ _ (s1 _ _ e),rfl,G,r,t,i,"drop",rfl,R2,by decide,by decide +kernel,?_⟩;rw[Zq];refine oN.go k sA fun u ws v H3 j3 hn s3 R3 KS hv k3=>n3 _ _ ?_;unfold Nu at k3;refine⟨_,rfl,G,r,t,j3,rfl,R3,?_⟩;rw[KS];refine oN.go k3 (sA.trans s3) fun n Wv v H4 j4 hn4 s4 R4 NB TF k4=>?_;obtain rfl:v=.int (n:Nat):=TF;intro d hd x TN nx nd ne;refine⟨x,TN,_,_,_,rfl,aj,rfl,?_⟩;have hf:iB (less (upd H4 d (.dK [])) G) d (fieldsOf (.drop n)):=⟨[],by rw[cP (mG R4.sub hd)];exact aj,.nil⟩
   obtain⟨R7,S7⟩:=xm (s:=.drop n) (R4.same (aO hd)) nx nd ne hf;exact k4 _ _ j4 (((sA.trans s3).trans s4).trans ((aO hd).trans (iF nx nd ne)).but) R7 NB ⟨x,rfl,S7⟩
def TQ:Hp->V->Nat×Nat->Prop:=fun F v p=>t9 F v (some p)
def WA(A:Ad):Sp:=fun vs H Q E=>∃G r t i,∃(n k:Nat),vs=[.ref r,.int (n:Nat),.int (k:Nat)]/\1<=k/\nq A G H r t i/\oN A G r t H TQ (BE t.length n k ((cut 0 t).drop i)) Q E
theorem NF(T:gQ K mg A):Fn P w K mg base (B8 P w) 4 "read_aim" ["reader","number","line_number"] (WA A):=T.HG.fn fun f fd F=>by
 refine F.Kw pG (fun vs H Q E h=>?_) (fun cdv A' outer s H vs Q E hr h=>?_)
 ·obtain⟨G,r,t,i,n,l,rfl,_⟩:=h;rfl
 ·refine aR fun Pz pz=>?_;obtain⟨G,r,t,i,n,l,rfl,hl,R,k⟩:=h;refine pz ?_;refine⟨_,ay (bH (i:=3) pG.nd rfl (Or.inl rfl) (gS (pO T) T.bE hr (eY cS) (pv 0) (ah aY (ah (pv 1) aA))))
   (ay (bH (i:=4) pG.nd rfl (Or.inl rfl) (dS T.pJ))
   (ay (b7 (bz gk (pv 3) (pv 1) (bM _)) (aD (bH (i:=4) pG.nd rfl (Or.inl rfl) (eB wC (pv 2) aY))) bC)
   (aD (aW (o9 (ah (pv 3) (ah (gS (pO T) T.bE hr (eY cS) (pv 0) (ah aY (ah (pv 4) aA))) aA))))))),?_⟩
  refine aR fun Pz pz=>?_;obtain⟨dx,lw,ts,e,W⟩:=R.at_;refine pz ?_;unfold BE at k;refine⟨_,rfl,r,dx,_,rfl,e,rfl,_,rfl,G,r,t,i,1,n,rfl,R,(oN.go k (bF.refl _).but fun a ws v H2 j ha s2 R2 hj hv k2=>?_)⟩;obtain rfl:v=.int (a:Nat):=hv;refine aR fun Pz pz=>?_;obtain⟨Ec,lw2,ts2,e2,W2⟩:=R2.at_;refine pz ?_;have fin:∀g:Nat,g=(if a=n then l-1 else LINES)->(sW (OV (cE (cT 3) (cE (BK A.b5 "read_number" (Rl A) [] E (cT 0) (cE (tC (.int 1)) (cE (cT 4) fW))) fW)))) {nx:=fun _ H'=>Q .dY H',rt:=Q} [some (.ref r),some (.int (n:Nat)),some (.int (l:Nat)),some (.int (a:Nat)),some (.int (g:Nat))] H2:=fun g hg=>by
   refine⟨_,rfl,_,rfl,r,Ec,_,rfl,e2,rfl,_,rfl,G,r,t,j,1,g,rfl,R2,?_⟩;rw[hj,hg];refine oN.go k2 s2 fun b ws3 v H3 j3 hb s3 R3 KS TH k3=>?_;obtain rfl:v=.int (b:Nat):=TH;refine⟨by show 2<=sizeLine;decide,fun p hp=>?_⟩;exact k3 _ _ j3 ((s2.trans s3).trans (aO hp).but) (R3.same (aO hp)) KS ⟨p,rfl,by rw[cP (mG R3.sub hp)];exact aj⟩
  refine⟨_,rfl,_,rfl,rfl,_,rfl,?_⟩;rw[pM];refine gm (fun h1=>?_) (fun h1=>?_)
  ·refine⟨_,rfl,_,_,rfl,rfl,?_⟩;have q:=fin (l-1) (by rw[aB (aH h1)]);have e9:(l:Int)-1=((l-1:Nat):Int):=by omega
   rw[<- e9]at q;exact q
  ·exact fin 40 (by rw[ao (fun z=>h1 (aC z))];rfl)
def WB(A:Ad):Hp->V->Line->Prop:=fun F v l=>∃a,v=.ref a/\ki A F a l
def HM(A:Ad):Sp:=fun vs H Q E=>∃G r t i,∃(n k:Nat),vs=[.ref r,.int (n:Nat),.int (k:Nat)]/\1<=k/\nq A G H r t i/\oN A G r t H (WB A) (mU t.length n k ((cut 0 t).drop i)) Q E
theorem DL{G H:Hp}{r x dx:Addr}{t:List Nat}{j:Nat}{l:Line}{va vs:V}(R:nq A G H r t j)(nx:H x=none)(nd:H dx=none)(ne:dx≠x)(ha:t9 (less H G) va (Vbptan.aimOf l))(hs:DG A (less H G) vs (kQ l)):
  nq A G (XQ H x dx A.cLine (.ins A.cLine dx [("aim",va),("simple",vs)])) r t j/\ki A (less (XQ H x dx A.cLine (.ins A.cLine dx [("aim",va),("simple",vs)])) G) x l:=by
 have sm:=iF (C:=A.cLine) (o:=.ins A.cLine dx [("aim",va),("simple",vs)]) nx nd ne;exact⟨R.same sm,dx,va,vs,by rw[cP (mG R.sub nx)];exact aj,ha.same (pF sm),hs.same (pF sm)⟩
theorem Qh(T:gQ K mg A):Fn P w K mg base (B8 P w) 6 "read_line" ["reader","number","line_number"] (HM A):=T.Fy.fn fun f fd F=>by
 refine F.Kw xJ (fun vs H Q E h=>?_) (fun cdv A' outer s H vs Q E hr h=>?_)
 ·obtain⟨G,r,t,i,n,l,rfl,_⟩:=h;rfl
 ·refine aR fun Pz pz=>?_;obtain⟨G,r,t,i,n,l,rfl,hl,R,k⟩:=h;refine pz ?_;refine⟨_,ay (b7 (ie (gS (rJ T) T.bE hr bx (pv 0) (ah eK aA)))
    (aD (aW (vt (DH T) hr bx (ah (bI (NF T) hr (eY cS) (ah (pv 0) (ah (pv 1) (ah (pv 2) aA)))) (ah mq aA)))))
    bC)
   (ay (b7 (ie (gS (rJ T) T.bE hr bx (pv 0) (ah eK aA)))
    (ay (bH (i:=3) xJ.nd rfl (Or.inl rfl) (bI (NF T) hr (eY cS) (ah (pv 0) (ah (pv 1) (ah (pv 2) aA)))))
    (ay (f9 (gS (pN T) T.bE hr (eY cS) (pv 0) (ah eK aA)))
    (aD (aW (vt (DH T) hr bx (ah (pv 3) (ah (bI (Ck T) hr (eY cS) (ah (pv 0) aA)) aA)))))))
    bC)
   (aD (aW (vt (DH T) hr bx (ah mq (ah (bI (Ck T) hr (eY cS) (ah (pv 0) aA)) aA)))))),?_⟩
  have Wx:bs "void"=Vbptan.W "void":=by decide +kernel
  have Wy:bs "fix"=Vbptan.W "fix":=by decide +kernel
  have Zq:bs "with"=Vbptan.W "with":=by decide +kernel
  refine aR fun Pz pz=>?_;obtain⟨dx,lw,ts,e,W⟩:=R.at_;refine pz ?_;unfold mU at k;rw[oQ R.le (by decide +kernel),oQ R.le (by decide +kernel),List.tail_drop]at k;refine⟨_,rfl,r,dx,_,rfl,e,rfl,G,r,t,i,"void",rfl,R,by decide,by decide +kernel,fun hw H1 s1 R1=>⟨_,rfl,cW ?_⟩,fun hw H1 s1=>⟨_,rfl,cg ?_⟩⟩
  ·rw[Wx]at hw;rw[aB (aC hw)]at k;refine⟨_,rfl,_,rfl,_,rfl,G,r,t,i+1,n,l,rfl,hl,R1,oN.go k s1 fun p ws v H2 j hn s2 R2 hj hv k2=>?_⟩;intro x Nz nx nd ne;refine⟨x,Nz,_,_,rfl,aj,rfl,?_⟩;obtain⟨R4,S4⟩:=DL (l:=.void p) R2 nx nd ne hv rfl;exact k2 _ _ j ((s1.trans s2).trans (iF nx nd ne).but) R4 hj ⟨x,rfl,S4⟩
  rw[Wx]at hw;rw[ao (fun z=>hw (aH z))]at k;have R1:=R.same s1;refine⟨_,rfl,r,dx,_,rfl,s1 _ _ e,rfl,G,r,t,i,"fix",rfl,R1,by decide,by decide +kernel,fun NC H2 s2 R2=>⟨_,rfl,cW ?_⟩,fun NC H2 s2=>⟨_,rfl,cg ?_⟩⟩
  ·rw[Wy]at NC;rw[aB (aC NC)]at k;have sA:=s1.but.trans s2;refine⟨_,rfl,_,rfl,_,rfl,G,r,t,i+1,n,l,rfl,hl,R2,oN.go k sA fun p ws v H3 j3 hn s3 R3 KS hv k3=>?_⟩;refine aR fun Pz pz=>?_;obtain⟨Nz,Zm,Zn,e3,W3⟩:=R3.at_;refine pz ?_;refine⟨_,rfl,r,Nz,_,rfl,e3,rfl,G,r,t,j3,"with",rfl,R3,by decide,by decide +kernel,?_⟩;rw[Zq,KS];refine oN.go k3 (sA.trans s3) fun u Wv v4 H4 j4 hn4 s4 R4 NB TF k4=>?_;refine⟨_,rfl,_,rfl,G,r,t,j4,rfl,R4,?_⟩;rw[NB];refine oN.go k4 ((sA.trans s3).trans s4) fun sx TM v5 H5 j5 hn5 s5 R5 ND Rm k5=>?_;intro x TN nx nd ne;refine⟨x,TN,_,_,rfl,aj,rfl,?_⟩;obtain⟨R7,S7⟩:=DL (l:=.fix p sx) R5 nx nd ne (t9.same (o:=some p) hv (gq (s4.trans s5) R.Rk)) Rm;exact k5 _ _ j5 ((((sA.trans s3).trans s4).trans s5).trans (iF nx nd ne).but) R7 ND ⟨x,rfl,S7⟩
  ·rw[Wy]at NC;rw[ao (fun z=>NC (aH z))]at k;have R2:=R1.same s2;have sA:SameBut r H H2:=(s1.trans s2).but;refine⟨_,rfl,G,r,t,i,rfl,R2,oN.go k sA fun sx TM v5 H5 j5 hn5 s5 R5 ND Rm k5=>?_⟩;intro x TN nx nd ne;refine⟨x,TN,_,_,rfl,aj,rfl,?_⟩;obtain⟨R7,S7⟩:=DL (l:=.simple sx) R5 nx nd ne rfl Rm;exact k5 _ _ j5 ((sA.trans s5).trans (iF nx nd ne).but) R7 ND ⟨x,rfl,S7⟩
end
def gD(e:Nat)(ws:List Word):Bool:=decide ((ws.headD (e,[])).1=e)
def gE(e n:Nat):Nat->Nat->List Word->Except Nat (List Line×List Word)
 |0,_,_=>.error e
 |f+1,k,ws=>if 40<k then .ok ([],ws)else if ahead (Vbptan.W "close") ws=true then .ok ([],ws)else if gD e ws=true then .ok ([],ws)else
   mU e n k ws >>=fun x=>must e NL x.2 >>=fun y=>gE e n f (k+1) y.2 >>=fun z=>.ok (x.1::z.1,z.2)
theorem vQ{e:Nat}{b:List Nat}{ws:List Word}{x:Unit×List Word}(h:must e b ws=.ok x):x.2.length+1=ws.length:=by
 cases ws with
 |nil=>cases h
 |cons w r=>
  have h:(if w.2=b then Except.ok ((),r)else Except.error w.1)=Except.ok x:=h;split at h
  ·injection h with h;rw[<- h];rfl
  ·cases h
theorem bA{α β:Type}{x:Except Nat α}{f:α->Except Nat β}{y:β}(h:x >>=f=.ok y):∃z,x=.ok z/\f z=.ok y:=by
 cases x with
 |error p=>cases h
 |ok z=>exact⟨z,rfl,h⟩
theorem Ao{e:Nat} :∀{f least:Nat} {ws:List Word} {x:Fields×List Word},gT e f least ws=.ok x->x.2.length<=ws.length
 |0,_,_,_,h=>by cases h
 |f+1,least,ws,x,h=>by
  unfold gT at h;split at h
  ·injection h with h;rw[<- h];exact aq _
  ·obtain⟨a,ha,h⟩:=bA h;obtain⟨b,hb,h⟩:=bA h;obtain⟨c,hc,h⟩:=bA h;injection h with h;have l1:=(iw ha).1;have l2:=xj hb;have l3:=Ao hc;rw[<- h];show c.2.length<=_;omega
theorem Aq{e:Nat}{ws:List Word}{x:Simple×List Word}(h:iG e ws=.ok x):x.2.length<=ws.length:=by
 unfold iG at h;have tl:ws.tail.length<=ws.length:=by rw[List.length_tail];omega
 split at h
 ·obtain⟨a,ha,h⟩:=bA h;obtain⟨b,hb,h⟩:=bA h;injection h with h;have l1:=(iw ha).1;have l2:=Ao hb;rw[<- h];show b.2.length<=_;omega
 ·split at h
  ·obtain⟨a,ha,h⟩:=bA h;obtain⟨b,hb,h⟩:=bA h;obtain⟨c,hc,h⟩:=bA h;injection h with h;have l1:=(iw ha).1;have l2:=(iw hb).1;have l3:=xj hc;rw[<- h];show c.2.length<=_;omega
  ·obtain⟨a,ha,h⟩:=bA h;obtain⟨b,hb,h⟩:=bA h;injection h with h;have l1:=vQ ha;have l2:=(iw hb).1;rw[<- h];show b.2.length<=_;omega
theorem Jk{e n k:Nat}{ws:List Word}{x:(Nat×Nat)×List Word}(h:BE e n k ws=.ok x):x.2.length<=ws.length:=by
 obtain⟨a,ha,h⟩:=bA h;obtain⟨b,hb,h⟩:=bA h;injection h with h;have l1:=(iw ha).1;have l2:=(iw hb).1;rw[<- h];show b.2.length<=_;omega
theorem FN{e n k:Nat}{ws:List Word}{x:Line×List Word}(h:mU e n k ws=.ok x):x.2.length<=ws.length:=by
 unfold mU at h;have tl:ws.tail.length<=ws.length:=by rw[List.length_tail];omega
 split at h
 ·obtain⟨a,ha,h⟩:=bA h;injection h with h;have l1:=Jk ha;rw[<- h];show a.2.length<=_;omega
 ·split at h
  ·obtain⟨a,ha,h⟩:=bA h;obtain⟨b,hb,h⟩:=bA h;obtain⟨c,hc,h⟩:=bA h;injection h with h;have l1:=Jk ha;have l2:=vQ hb;have l3:=Aq hc;rw[<- h];show c.2.length<=_;omega
  ·obtain⟨a,ha,h⟩:=bA h;injection h with h;have l1:=Aq ha;rw[<- h];show a.2.length<=_;omega
section
variable{P:Program}{w:World}{K:PySem.W.Frag}{mg:Str->Option Value}{base:Heap}{A:Ad}{CX:nZ}
theorem nq.mark{G H:Hp}{r d:Addr}{t:List Nat}{i:Nat}{o u:HO}(R:nq A G H r t i)(hd:H d=none):nq A (upd G d o) (upd H d u) r t i:=by
 obtain⟨h0,h1,h2,h3,dx,lw,ts,e,W⟩:=R;have nr:r≠d:=aS e hd;have sm:bF (less H G) (less (upd H d u) (upd G d o)):=fun b x q=>by
  obtain⟨q1,q2⟩:=nF q;have nb:=aS q2 hd;rw[cP (by rw[aI nb];exact q1),aI nb];exact q2
 refine⟨by rw[aI nr];exact h0,fun b hb=>?_,h2,h3,dx,lw,ts,by rw[aI nr];exact e,W.same sm⟩;by_cases z:b=d
 ·rw[z,aj];intro q;cases q
 ·rw[aI z]at hb ⊢;exact h1 b hb
theorem xX{G H:Hp}{d:Addr}{o:HO} :bF (less H (upd G d o)) (less H G):=fun b x q=>by
 obtain⟨q1,q2⟩:=nF q;have nb:b≠d:=fun z=>by rw[z,aj]at q1;cases q1
 rw[aI nb]at q1;rw[cP q1];exact q2
theorem nq.unmark{G H:Hp}{r d:Addr}{t:List Nat}{i:Nat}{o:HO}(R:nq A (upd G d o) H r t i)(nr:r≠d):nq A G H r t i:=by
 obtain⟨h0,h1,h2,h3,dx,lw,ts,e,W⟩:=R;refine⟨by rw[aI nr]at h0;exact h0,fun b hb=>h1 b ?_,h2,h3,dx,lw,ts,e,W.same xX⟩;by_cases z:b=d
 ·rw[z,aj];intro q;cases q
 ·rw[aI z];exact hb
theorem Ar{G H:Hp}{d:Addr}{o u:HO} :less (upd H d u) (upd G d o)=less H (upd G d o):=by
 funext b;unfold less;by_cases z:b=d
 ·rw[z,aj]
 ·rw[aI z,aI z]
theorem nq.put{G H:Hp}{r d:Addr}{t:List Nat}{i:Nat}{o u:HO}(R:nq A (upd G d o) H r t i)(nr:r≠d):nq A (upd G d o) (upd H d u) r t i:=by
 obtain⟨h0,h1,h2,h3,dx,lw,ts,e,W⟩:=R;refine⟨h0,sI h1 (d7 (l:=d)) aj,h2,h3,dx,lw,ts,by rw[aI nr];exact e,?_⟩;rw[Ar];exact W
def As(A:Ad):Hp->V->List Line->Prop:=fun F v ls=>∃d,v=.ref d/\lV A F d ls
def Qi(A:Ad):Sp:=fun vs H Q E=>∃G r t i f,∃n:Nat,vs=[.ref r,.int (n:Nat)]/\nq A G H r t i/\((cut 0 t).drop i).length<f/\oN A G r t H (As A) (gE t.length n f 1 ((cut 0 t).drop i)) Q E
theorem FO(T:gQ K mg A):Fn P w K mg base (B8 P w) 7 "read_lines" ["reader","number"] (Qi A):=T.Dq.fn fun f fd F=>by
 refine F.Kw vD (fun vs H Q E h=>?_) (fun cdv A' outer s H vs Q E hr h=>?_)
 ·obtain⟨G,r,t,i,f,n,rfl,_⟩:=h;rfl
 ·refine aR fun Pz pz=>?_;obtain⟨G,r,t,i,f,n,rfl,R,hf,k⟩:=h;refine pz ?_;refine⟨_,ay (bH (i:=2) vD.nd rfl (Or.inl rfl) (b6 aA))
   (ay (yT IV (PW.pt (nX (bz yV (fX T.bn (pv 2)) (dS T.pJ) (bM _)) (nX (mw (ie (gS (DF T) T.bE hr bx (pv 0) (ah eK aA)))) (nv (mw (ie (jb (Cg T) T.bE hr bx (pv 0))))))))
    (ay (qU (pv 2) (bI (Qh T) hr (eY cS) (ah (pv 0) (ah (pv 1) (ah (eB k6 (fX T.bn (pv 2)) aY) aA)))))
    (aD (f9 (gS (pN T) T.bE hr (eY cS) (pv 0) (ah eK aA))))))
   (aD (aW (pv 2)))),?_⟩
  refine⟨bu _,fun d hd=>?_⟩;have ew:bs "close"=Vbptan.W "close":=by decide +kernel
  have Tz:G d=none:=mG R.sub hd;refine aR fun Pz pz=>?_;obtain⟨dx,lw,ts,e,W⟩:=R.at_;refine pz ?_;have nr:r≠d:=aS e hd;refine⟨fun m σ H'=>∃(i:Nat) (acc:List Line) (as:List Addr) (f:Nat),σ=[some (.ref r),some (.int (n:Nat)),some (.ref d)]/\m=((cut 0 t).drop i).length/\nq A (upd G d (.lst [])) H' r t i/\SameBut r H H'/\H' d=some (.lst (as.map V.ref))/\
    Paired (ki A (less H' (upd G d (.lst [])))) as acc/\acc.length<=40/\((cut 0 t).drop i).length<f/\oN A G r t H (fun F v l=>As A F v (acc++l)) (gE t.length n f (acc.length+1) ((cut 0 t).drop i)) Q E,
   ⟨_,i,[],[],f,rfl,rfl,R.mark hd,(aO hd).but,aj,.nil,bu _,hf,k⟩,?_⟩
  intro m σ H1 hz;refine aR fun Pz pz=>?_;obtain⟨i,acc,as,f,rfl,rfl,R,sb,hd1,hp,hal,hf,k⟩:=hz;refine pz ?_;have hlen:as.length=acc.length:=bg hp;obtain⟨g,rfl⟩:∃g,f=g+1:=⟨f-1,by omega⟩
  unfold gE at k;rw[oQ R.le (by decide +kernel)]at k;refine aR fun Pz pz=>?_;obtain⟨XR,lw1,ts1,e1,W1⟩:=R.at_;refine pz ?_;have fin:∀H2,SameBut r H1 H2->nq A (upd G d (.lst [])) H2 r t i->oN A G r t H (fun F v l=>As A F v (acc++l)) (.ok ([],(cut 0 t).drop i)) Q E->Q (.ref d) H2:=fun H2 s2 R2 kk=>by
   refine kk _ H2 i (sb.trans s2) (R2.unmark nr) rfl ⟨d,rfl,as,?_,?_⟩
   ·rw[cP Tz];exact s2 _ _ hd1 (bP nr)
   ·rw[bq];exact bX (fun _ _ q=>(q.same (gq s2 R.Rk)).same xX) hp
  refine⟨_,rfl,d,_,rfl,.inl (cI.of hd1),_,_,rfl,rfl,_,rfl,?_⟩;have el:(as.map V.ref).length=acc.length:=by rw[ai];exact hlen
  rw[el];refine gm (fun h1=>?_) (fun h1=>?_)
  ·have TR:=aH h1;rw[ao (by omega)]at k;refine⟨_,rfl,r,XR,_,rfl,e1,rfl,_,r,t,i,"close",rfl,R,by decide,fun H2 sm=>⟨_,rfl,?_⟩⟩;rw[ew];have R2:=R.same sm;by_cases hw:(wd t i).2=Vbptan.W "close"
   ·rw[aC hw]at k ⊢;exact cg (cg ⟨_,rfl,fin H2 sm.but R2 k⟩)
   ·rw[aK hw]at k ⊢;refine cW ⟨_,rfl,r,XR,_,rfl,sm _ _ e1,rfl,_,r,t,i,rfl,R2,_,rfl,?_⟩;rw[ao (by intro z;cases z)]at k;have ep:gD t.length ((cut 0 t).drop i)=decide ((wd t i).1=t.length):=rfl;rw[ep]at k;by_cases hq:(wd t i).1=t.length
    ·rw[aC hq]at k ⊢;exact cg ⟨_,rfl,fin H2 sm.but R2 k⟩
    ·rw[aK hq]at k ⊢;rw[ao (by intro z;cases z)]at k;refine cW ⟨fun σ' H'=>∃m',m'<((cut 0 t).drop i).length/\_,fun σ' H' z=>z,?_⟩;have hd2:=sm _ _ hd1;have XO:=sb.trans sm.but;have Zs:((as.map V.ref).length:Int)+1=((acc.length+1:Nat):Int):=by rw[el];omega
     refine⟨_,rfl,.inl ⟨rfl,_,cI.of hd2⟩,_,rfl,_,rfl,_,rfl,d,_,rfl,.inl (cI.of hd2),_,_,rfl,rfl,upd G d (.lst []),r,t,i,n,acc.length+1,?_,by omega,R2,?_⟩
     ·show [V.ref r,V.int (n:Int),V.int (((as.map V.ref).length:Int)+1)]=_;rw[Zs]
     refine oN.go k XO fun x ws v H3 j3 hx s3 R3 KS TH k3=>?_;obtain⟨la,rfl,hla⟩:=TH;have SS:=s3 _ _ hd2 (bP nr);refine⟨d,_,_,rfl,rfl,SS,by rw[el];show acc.length<2 ^ 24;omega,?_⟩;have R4:=R3.put (u:=.lst (as.map V.ref++[.ref la])) nr;refine aR fun Pz pz=>?_;obtain⟨Wz,lw4,ts4,e4,W4⟩:=R4.at_;refine pz ?_;refine⟨_,rfl,r,Wz,_,rfl,e4,rfl,_,r,t,j3,"\n",rfl,R4,by decide,by decide +kernel,?_⟩;rw[Ny,KS];have sbB:SameBut r H (upd H3 d (.lst (as.map V.ref++[.ref la]))):=fun b o eb nb=>by
      rw[aI (aS eb hd)];exact(XO.trans s3) b o eb nb
     refine oN.go k3 sbB fun u TM v5 H5 j5 hx5 s5 R5 ND Rm k5=>?_;have l1:ws.length<=((cut 0 t).drop i).length:=FN hx;have l2:TM.length+1=ws.length:=vQ hx5;have hsame:bF (less H1 (upd G d (.lst []))) (less H5 (upd G d (.lst []))):=by
      have q1:=gq (sm.but.trans s3) R.Rk;have q2:=gq s5 R.Rk;rw[Ar]at q2;exact q1.trans q2
     have TU:bF (less H3 (upd G d (.lst []))) (less H5 (upd G d (.lst []))):=by
      have q2:=gq s5 R.Rk;rw[Ar]at q2;exact q2
     refine⟨_,?_,j5,acc++[x],as++[la],g,rfl,rfl,R5,sbB.trans s5,?_,?_,?_,?_,?_⟩
     ·rw[ND];omega
     ·rw[s5 _ _ aj (bP nr),aX];rfl
     ·exact iO (bX (fun _ _ q=>q.same hsame) hp) (hla.same TU)
     ·rw[au];show acc.length+1<=40;omega
     ·rw[ND];omega
     ·rw[ND,au];have k5:oN A G r t H (fun F v l=>As A F v (acc++l)) (gE t.length n g (acc.length+1+1) TM >>=fun z=>.ok (x::z.1,z.2)) Q E:=k5;show oN A G r t H _ (gE t.length n g (acc.length+1+1) TM) Q E;unfold oN at k5 ⊢;cases hz:gE t.length n g (acc.length+1+1) TM with
      |error p=>
       rw[hz]at k5;exact k5
      |ok z=>
       rw[hz]at k5;intro v' H' j' s' R' hd' hv';refine k5 v' H' j' s' R' hd' ?_;show As A (less H' G) v' (acc++(x::z.1));have e9:acc++(x::z.1)=(acc++[x])++z.1:=by rw[bw];rfl
       rw[e9];exact hv'
  ·have TR:¬((acc.length:Int)<40):=fun z=>h1 (aC z);rw[aB (by omega)]at k;exact cg ⟨_,rfl,fin H1 (bF.refl _).but R k⟩
end
open Vbptan (Word cut must number value numberOf isValue ahead Fields Simple Line Issue NL FILES LINES earlier check MODULUS)
def Rn:Nat->List Nat->List Int
 |_,[]=>[]
 |k,c::r=>((k:Int)*(c:Int))::Rn (k+1) r
def DM:Nat->List Nat->Nat
 |_,[]=>0
 |k,c::r=>k*c+DM (k+1) r
theorem Jl:∀(k:Nat) (t:List Nat),(Rn k t).sum=((DM k t:Nat):Int)
 |_,[]=>rfl
 |k,c::r=>by
  show(((k:Int)*(c:Int))::Rn (k+1) r).sum=((k*c+DM (k+1) r:Nat):Int);rw[List.sum_cons,Jl (k+1) r]
  push_cast
  rfl
theorem DN:∀(k:Nat) (t:List Nat),(Rn k t).length=t.length
 |_,[]=>rfl
 |k,c::r=>by show(Rn (k+1) r).length+1=r.length+1;rw[DN]
theorem NG:∀(k:Nat) (t:List Nat) (i c:Nat),t[i]? =some c->(Rn k t)[i]? =some (((i+k:Nat):Int)*(c:Int))
 |_,[],_,_,h=>by simp at h
 |k,d::r,0,c,h=>by
  simp at h;subst h;show some _=some _;rw[kG]
 |k,d::r,i+1,c,h=>by
  have:=NG (k+1) r i c (by simpa using h);show(Rn (k+1) r)[i]? =_;rw[this,show i+(k+1)=i+1+k by omega]
theorem FP:∀(t:List Nat) (k m:Nat),(t.foldl (fun(x:Nat×Nat) c=>(x.1+1,(x.2+x.1*c)%MODULUS)) (k,m%MODULUS)).2=(m+DM k t)%MODULUS
 |[],k,m=>by show m%MODULUS=(m+0)%MODULUS;rw[Nat.add_zero]
 |c::r,k,m=>by
  show(r.foldl _ (k+1,(m%MODULUS+k*c)%MODULUS)).2=_;have e:(m%MODULUS+k*c)%MODULUS=(m+k*c)%MODULUS:=by rw[Nat.mod_add_mod]
  rw[e,FP r (k+1) (m+k*c)];show _=(m+(k*c+DM (k+1) r))%MODULUS;rw[Nat.add_assoc]
theorem FQ(t:List Nat):check t=DM 1 t%9973:=by
 have:=FP t 1 0;rw[kG]at this;exact this
theorem KU{t:List Nat}{i:Nat} :pA (zs t) none (some (i:Int))=zs (t.take i):=by
 unfold pA;rw[HT.r8,HT.Et,cF,Nat.sub_zero,oZ];show(t.map _).take (min i t.length)=(t.take i).map _;rw[List.map_take];rcases Nat.le_total i t.length with h|h
 ·rw[lZ h]
 ·rw[Nat.min_eq_right h,bN (by rw[ai];exact aq _),bN (by rw[ai];exact h)]
theorem rK{H H':Hp}{D:Addr}{out out':List V}{y:V}(hD:H D=none)(z1:bF H H')(z2:H' D=some (.lst out))(hl:out.length<sizeLine)(e:out'=out++[y]):
  ∃acc,H' D=some (.lst acc)/\acc.length<sizeLine/\(bF H (upd H' D (.lst (acc++[y])))/\upd H' D (.lst (acc++[y])) D=some (.lst out')):=
 ⟨out,z2,hl,fun b o q=>by rw[aI (aS q hD)];exact z1 b o q,by rw[aj,e]⟩
theorem dO{α:Type}{l:List α}{i:Nat}{x:α}(h:l[i]? =some x):l.take (i+1)=l.take i++[x]:=by rw[kU,h];rfl
section
variable{P:Program}{w:World}{K:PySem.W.Frag}{mg:Str->Option Value}{base:Heap}{A:Ad}{CX:nZ}
def Qj(K:PySem.W.Frag):Sp:=fun vs H Q _=>∃a t,vs=[.ref a]/\cI K H a (zs t)/\t.length<=100000/\∀H',bF H H'->Q (.int (check t:Nat)) H'
theorem FT(T:gQ K mg A):Fn P w K mg base ig 1 "check_number" ["text"] (Qj K):=T.Ab.fn fun f fd F=>by
 refine F.ok jE (fun vs H Q E h=>?_) (fun cdv A' outer s H vs Q E hr h=>?_)
 ·obtain⟨a,t,rfl,_⟩:=h;rfl
 ·refine aR fun Pz pz=>?_;obtain⟨a,t,rfl,hS,hl,k⟩:=h;refine pz ?_;refine⟨_,aD (aW (eB RV (eU (Sb rfl) rfl T.bn.Zf PyProof.Rows.Boot.«sum» (ah (oB (own:=[("place",1),("byte",2)]) (g:=Vg K 2 (LH (uS 1) (LH (uS 2) Vf))) rfl jE.nd (EU rfl T.bn.enum (ah (pv 0) aA) (yx aY CU)) (fM (by kernel_rfl))
   (fun _ _ _ _ _=>by exact nY rfl (dN (b8 (i:=1) jE.nd rfl (Or.inl rfl)) (dN (b8 (i:=2) jE.nd rfl (Or.inl rfl)) kC))) (fun _ _ _ _ _=>lU)
   (fun _ _ _ _ _=>eB LJ (pv 1) (pv 2))) aA)) (dS T.qb))),?_⟩
  refine⟨_,rfl,a,_,rfl,rfl,hS,fun D hD=>?_⟩;refine VX t.length (fun i H'=>bF H H'/\H' D=some (.lst (((Rn 1 t).take i).map V.int))) ⟨aO hD,aj⟩ (fun i H' hi ⟨z1,z2⟩=>?_) (fun H' ⟨z1,z2⟩=>?_)
  ·have hS':=z1.seq hS;have hx:(zs t)[i]? =some (.int ((t[i]:Nat):Int)):=by rw[bf,aM hi];rfl
   refine⟨⟨_,_,hS',hx⟩,fun x xW y=>?_⟩;refine aR fun Pz pz=>?_;obtain⟨T',x',rfl,hT,rfl,y⟩:=y;refine pz ?_;have ex:=y _ hS';rw[hx]at ex;cases ex;have nD:T'≠D:=fun z=>by rw[z,z2]at hT;cases hT
   refine⟨T',_,rfl,lD.of aj,rfl,_,_,rfl,_,_,rfl,rfl,rfl,_,rfl,_,rfl,_,_,rfl,rfl,.inl ⟨?_,?_⟩,?_⟩
   ·exact Int.lt_of_lt_of_le (by decide) (show(0:Int)<=_ by omega)
   ·show(i:Int)+1<2 ^ 64;omega
   ·refine rK hD (z1.trans (aO hT)) (by rw[aI (bP nD)];exact z2) ?_ ?_
    ·rw[ai,b4,DN];show min i t.length<2 ^ 24;omega
    ·have q:=NG 1 t i t[i] (aM hi);rw[dO q,aX];rfl
  ·refine⟨⟨_,z1.seq hS,by rw[cF];exact aq _⟩,?_⟩;rw[bN (by rw[DN];exact aq _)]at z2;refine⟨D,_,rfl,cI.of z2,_,_,rfl,rfl,(by show(0:Int)<9973;decide),?_⟩;rw[Jl];have e:((DM 1 t:Nat):Int)%9973=((check t:Nat):Int):=by rw[FQ];rfl
   show Q (V.int (((DM 1 t:Nat):Int)%9973)) H';rw[e];exact k H' z1
def Ed{β:Type}(res:Except Nat β)(C:β->Prop)(Er:Nat->Prop):Prop:=match res with
 | .ok x=>C x
 | .error p=>Er p
theorem Ed.go{α β:Type}{G1:Hp}{r:Addr}{t:List Nat}{H:Hp}{rep1:Hp->V->α->Prop}{res:Except Nat (α×List Word)}{f:α×List Word->Except Nat β}{C:β->Prop}{Er:Nat->Prop}{Q':VK}{E:XK}(k:Ed (res >>=f) C Er)
  (he:∀p,Er p->∀d H',SameBut r H H'->H' d=some (.xd [("place",.int (p:Nat))])->E (.ref A.eV) (some d) H')
  (h:∀x ws v H' j,res=.ok (x,ws)->SameBut r H H'->nq A G1 H' r t j->(cut 0 t).drop j=ws->rep1 (less H' G1) v x->Ed (f (x,ws)) C Er->Q' v H'):oN A G1 r t H rep1 res Q' E:=by
 cases res with
 |error p=>exact he p k
 |ok y=>
  obtain⟨x,ws⟩:=y;intro v H' j sb R hd hv;exact h x ws v H' j rfl sb R hd hv k
def n8(t:List Nat)(n:Nat):Except Nat (List Line):=gE t.length n ((cut 0 t).length+1) 1 (cut 0 t) >>=fun l=>if gD t.length l.2=true then .ok l.1 else .error (l.2.headD (t.length,[])).1
def Qk(A:Ad):Sp:=fun vs H Q E=>∃a t,∃n:Nat,vs=[.ref a,.int (n:Nat)]/\H a=some (.lst (zs t))/\t.length<=2000/\
 Ed (n8 t n) (fun ls=>∀H' v,bF H H'->(∃as:List Addr,H' v=some (.lst (as.map V.ref))/\as.length=ls.length)->Q (.ref v) H') (fun p=>∀d H',bF H H'->H' d=some (.xd [("place",.int (p:Nat))])->E (.ref A.eV) (some d) H')
theorem NH(T:gQ K mg A):Fn P w K mg base (B8 P w) 8 "read_lines_alone" ["text","number"] (Qk A):=T.ux.fn fun f fd F=>by
 refine F.Kw jc (fun vs H Q E h=>?_) (fun cdv A' outer s H vs Q E hr h=>?_)
 ·obtain⟨a,t,n,rfl,_⟩:=h;rfl
 ·refine aR fun Pz pz=>?_;obtain⟨a,t,n,rfl,ha,hl,k⟩:=h;refine pz ?_;refine⟨_,ay (bH (i:=2) jc.nd rfl (Or.inl rfl) (vt (Cj T) hr bx (ah (pv 0) aA)))
   (ay (bH (i:=3) jc.nd rfl (Or.inl rfl) (bI (FO T) hr (eY cS) (ah (pv 2) (ah (pv 1) aA))))
   (ay (b7 (mw (ie (jb (Cg T) T.bE hr bx (pv 2)))) (aD (rG T hr cS (jb (pL T) T.bE hr bx (pv 2)))) bC)
   (aD (aW (pv 3))))),?_⟩
  refine⟨_,rfl,fun r dx nr nd ne=>?_⟩;have hG:bF H (upd (upd H dx (.own r)) r (.ins A.b5 dx [])):=fun b o e=>by rw[aI (aS e nr),aI (aS e nd)];exact e
  refine⟨r,dx,a,t,rfl,aj,cI.of (hG _ _ ha),hl,fun H1 s1 R1=>⟨rfl,?_⟩⟩;have toS:∀{H'},SameBut r (upd (upd H dx (.own r)) r (.ins A.b5 dx [])) H'->bF H H':=fun sb b o e=>sb b o (hG b o e) (aS e nr);refine⟨_,rfl,_,rfl,_,r,t,0,(cut 0 t).length+1,n,rfl,R1,by rw[oZ];exact fC _,?_⟩;rw[oZ];refine Ed.go k (fun p kp d H' sb hd=>kp d H' (toS (s1.trans sb)) hd) fun ls ws v H2 j hls s2 R2 hj hv k2=>?_;refine aR fun Pz pz=>?_;obtain⟨d,rfl,as,hd,hp⟩:=hv;refine pz ?_;refine aR fun Pz pz=>?_;obtain⟨Ec,lw2,ts2,e2,W2⟩:=R2.at_;refine pz ?_;refine⟨_,rfl,r,Ec,_,rfl,e2,rfl,_,r,t,j,rfl,R2,_,rfl,?_⟩;have ep:gD t.length ws=decide ((wd t j).1=t.length):=by rw[<- hj];rfl
  have eq:(ws.headD (t.length,[])).1=(wd t j).1:=by rw[<- hj];rfl
  have k2:Ed (if gD t.length ws=true then .ok ls else .error (ws.headD (t.length,[])).1) _ _:=k2;rw[ep,eq]at k2;by_cases hq:(wd t j).1=t.length
  ·rw[aC hq]at k2 ⊢;exact cg ⟨_,rfl,k2 H2 d (toS (s1.trans s2)) ⟨as,d8 hd,bg hp⟩⟩
  ·rw[aK hq]at k2 ⊢;exact cW ⟨_,rfl,r,Ec,_,rfl,e2,rfl,_,r,t,j,rfl,R2,rH fun d' H' s' hd'=>k2 d' H' ((toS (s1.trans s2)).trans s') hd'⟩
def mV(t:List Nat):Except Nat (Issue×Nat×Nat×Nat):=
 must t.length (Vbptan.W "gazette") (cut 0 t) >>=fun a=>number t.length 1 99 a.2 >>=fun n=>must t.length (Vbptan.W "of") n.2 >>=fun b=>number t.length 0 100000 b.2 >>=fun d=>must t.length NL d.2 >>=fun c=>
 gE t.length n.1 (c.2.length+1) 1 c.2 >>=fun l=>must t.length (Vbptan.W "close") l.2 >>=fun x=>number t.length 0 40 x.2 >>=fun cn=>number t.length 0 9972 cn.2 >>=fun ck=>Np ck.2 >>=fun _=>
 .ok ({num:=n.1,day:=d.1,lines:=l.1,text:=t},cn.1,ck.1,(l.2.headD (t.length,[])).1)
def iU(t:List Nat)(x:Issue×Nat×Nat×Nat):Prop:=x.2.1=x.1.lines.length/\x.2.2.1=check (t.take x.2.2.2)
def xY(A:Ad):Sp:=fun vs H Q E=>∃a t,vs=[.ref a]/\H a=some (.lst (zs t))/\t.length<=2000/\
 Ed (mV t) (fun x=>(iU t x->∀v H',bF H H'->xg A (less H' H) v a x.1->Q (.ref v) H')/\(¬iU t x->∀H',bF H H'->E (.ref A.qV) none H')) (fun p=>∀d H',bF H H'->H' d=some (.xd [("place",.int (p:Nat))])->E (.ref A.eV) (some d) H')
theorem FU(T:gQ K mg A):Fn P w K mg base (B8 P w) 8 "read_issue" ["text"] (xY A):=T.Dr.fn fun f fd F=>by
 refine F.Kw fQ (fun vs H Q E h=>?_) (fun cdv A' outer s H vs Q E hr h=>?_)
 ·obtain⟨a,t,rfl,_⟩:=h;rfl
 ·refine aR fun Pz pz=>?_;obtain⟨a,t,rfl,ha,hl,k⟩:=h;refine pz ?_;refine⟨_,ay (bH (i:=1) fQ.nd rfl (Or.inl rfl) (vt (Cj T) hr bx (ah (pv 0) aA)))
   (ay (f9 (gS (pN T) T.bE hr (eY cS) (pv 1) (ah eK aA)))
   (ay (bH (i:=2) fQ.nd rfl (Or.inl rfl) (gS (pO T) T.bE hr (eY cS) (pv 1) (ah aY (ah (dS T.oM) aA))))
   (ay (f9 (gS (pN T) T.bE hr (eY cS) (pv 1) (ah eK aA)))
   (ay (bH (i:=3) fQ.nd rfl (Or.inl rfl) (gS (pO T) T.bE hr (eY cS) (pv 1) (ah aY (ah (dS T.Aj) aA))))
   (ay (f9 (gS (pN T) T.bE hr (eY cS) (pv 1) (ah eK aA)))
   (ay (bH (i:=4) fQ.nd rfl (Or.inl rfl) (bI (FO T) hr (eY cS) (ah (pv 1) (ah (pv 2) aA))))
   (ay (bH (i:=5) fQ.nd rfl (Or.inl rfl) (jb (pL T) T.bE hr bx (pv 1)))
   (ay (f9 (gS (pN T) T.bE hr (eY cS) (pv 1) (ah eK aA)))
   (ay (bH (i:=6) fQ.nd rfl (Or.inl rfl) (gS (pO T) T.bE hr (eY cS) (pv 1) (ah aY (ah (dS T.pJ) aA))))
   (ay (bH (i:=7) fQ.nd rfl (Or.inl rfl) (gS (pO T) T.bE hr (eY cS) (pv 1) (ah aY (ah (eB wC (dS T.qb) aY) aA))))
   (ay (f9 (jb (Tt T) T.bE hr (eY cS) (pv 1)))
   (ay (b7 (PW.pt (BI (bz LL (pv 6) (fX T.bn (pv 4)) (bM _)) (wB (bz LL (pv 7) (bI (FT T) hr bx (ah (qB uU (pv 0) Iz (nA (pv 5))) aA)) (bM _)))))
    (aD (Ky T.vK hr cS rfl T.Dj)) bC)
   (aD (aW (vt (Nt T) hr bx (ah (pv 2) (ah (pv 3) (ah (pv 4) (ah (pv 0) aA))))))))))))))))))),?_⟩
  refine sq fun N0 n0=>?_;refine⟨_,rfl,fun r dx nr nd ne=>?_⟩;have hG:bF H (upd (upd H dx (.own r)) r (.ins A.b5 dx [])):=fun b o e=>by rw[aI (aS e nr),aI (aS e nd)];exact e
  refine⟨r,dx,a,t,rfl,aj,cI.of (hG _ _ ha),hl,fun H1 s1 R1=>⟨rfl,n0 _ _ (sq fun N0 n0=>?_)⟩⟩;have toS:∀{H'},SameBut r (upd (upd H dx (.own r)) r (.ins A.b5 dx [])) H'->bF H H':=fun sb b o e=>sb b o (hG b o e) (aS e nr);have er:∀{H2},SameBut r (upd (upd H dx (.own r)) r (.ins A.b5 dx [])) H2->∀p,(∀d H',bF H H'->H' d=some (.xd [("place",.int (p:Nat))])->E (.ref A.eV) (some d) H')->∀d H',SameBut r H2 H'->H' d=some (.xd [("place",.int (p:Nat))])->E (.ref A.eV) (some d) H':=
   fun s2 p kp d H' sb hd=>kp d H' (toS (s2.trans sb)) hd
  refine aR fun Pz pz=>?_;obtain⟨XR,lw1,ts1,e1,W1⟩:=R1.at_;refine pz ?_;refine⟨_,rfl,r,XR,_,rfl,e1,rfl,_,r,t,0,"gazette",rfl,R1,by decide,by decide +kernel,?_⟩;rw[oZ,show bs "gazette"=Vbptan.W "gazette" by decide +kernel];refine Ed.go k (er s1) fun _ ws v H2 j2 XG s2 R2 hj2 hv2 k=>n0 _ _ (sq fun N0 n0=>?_);refine aR fun Pz pz=>?_;obtain⟨Ec,lw2,ts2,e2,W2⟩:=R2.at_;refine pz ?_;refine⟨_,rfl,r,Ec,_,rfl,e2,rfl,_,r,t,j2,1,99,rfl,R2,?_⟩;rw[hj2];have s2:=s1.trans s2;refine Ed.go k (er s2) fun n ws v H3 j3 hx3 s3 R3 KS TH k=>n0 _ _ (sq fun N0 n0=>?_);obtain rfl:v=.int (n:Nat):=TH;refine aR fun Pz pz=>?_;obtain⟨Nz,Zm,Zn,e3,W3⟩:=R3.at_;refine pz ?_;refine⟨_,rfl,r,Nz,_,rfl,e3,rfl,_,r,t,j3,"of",rfl,R3,by decide,by decide +kernel,?_⟩;rw[KS,show bs "of"=Vbptan.W "of" by decide +kernel];have s3:=s2.trans s3;refine Ed.go k (er s3) fun _ ws v H4 j4 hx4 s4 R4 NB TF k=>n0 _ _ (sq fun N0 n0=>?_);refine aR fun Pz pz=>?_;obtain⟨Wz,lw4,ts4,e4,W4⟩:=R4.at_;refine pz ?_;refine⟨_,rfl,r,Wz,_,rfl,e4,rfl,_,r,t,j4,0,100000,rfl,R4,?_⟩;rw[NB];have s4:=s3.trans s4;refine Ed.go k (er s4) fun d ws v H5 j5 hx5 s5 R5 ND Rm k=>n0 _ _ (sq fun N0 n0=>?_);obtain rfl:v=.int (d:Nat):=Rm;refine aR fun Pz pz=>?_;obtain⟨dx5,lw5,ts5,e5,W5⟩:=R5.at_;refine pz ?_;refine⟨_,rfl,r,dx5,_,rfl,e5,rfl,_,r,t,j5,"\n",rfl,R5,by decide,by decide +kernel,?_⟩;rw[ND,Ny];have s5:=s4.trans s5;refine Ed.go k (er s5) fun _ ws v H6 j6 hx6 s6 R6 hj6 hv6 k=>n0 _ _ (sq fun N0 n0=>?_);have s6:=s5.trans s6;refine⟨_,rfl,_,rfl,_,r,t,j6,ws.length+1,n,rfl,R6,by rw[hj6];exact fC _,?_⟩;rw[hj6];refine Ed.go k (er s6) fun ls ws v H7 j7 hx7 s7 R7 hj7 hv7 k=>n0 _ _ (sq fun N0 n0=>?_);obtain⟨la,rfl,hla⟩:=hv7;have s7':=s6.trans s7;refine aR fun Pz pz=>?_;obtain⟨dx7,lw7,ts7,e7,W7⟩:=R7.at_;refine pz ?_;refine⟨_,rfl,r,dx7,_,rfl,e7,rfl,_,r,t,j7,rfl,R7,n0 _ _ (sq fun N0 n0=>?_)⟩;refine⟨_,rfl,r,dx7,_,rfl,e7,rfl,_,r,t,j7,"close",rfl,R7,by decide,by decide +kernel,?_⟩;rw[hj7,show bs "close"=Vbptan.W "close" by decide +kernel];refine Ed.go k (er s7') fun _ ws' v H8 j8 hx8 s8 R8 hj8 hv8 k=>n0 _ _ (sq fun N0 n0=>?_);have s8':=s7'.trans s8;refine aR fun Pz pz=>?_;obtain⟨dx8,lw8,ts8,e8,W8⟩:=R8.at_;refine pz ?_;refine⟨_,rfl,r,dx8,_,rfl,e8,rfl,_,r,t,j8,0,40,rfl,R8,?_⟩;rw[hj8];refine Ed.go k (er s8') fun cn ws9 v H9 j9 hx9 s9 R9 hj9 hv9 k=>n0 _ _ (sq fun N0 n0=>?_);obtain rfl:v=.int (cn:Nat):=hv9;have s9':=s8'.trans s9;refine aR fun Pz pz=>?_;obtain⟨dx9,lw9,ts9,e9,W9⟩:=R9.at_;refine pz ?_;refine⟨_,rfl,r,dx9,_,rfl,e9,rfl,_,_,rfl,rfl,_,r,t,j9,0,9972,rfl,R9,?_⟩;rw[hj9];refine Ed.go k (er s9') fun ck acJ v H10 j10 acL YF R10 Zt Zu k=>n0 _ _ (sq fun N0 n0=>?_);obtain rfl:v=.int (ck:Nat):=Zu;have WC:=s9'.trans YF;refine aR fun Pz pz=>?_;obtain⟨Zv,acM,acN,e10,W10⟩:=R10.at_;refine pz ?_;refine⟨_,rfl,r,Zv,_,rfl,e10,rfl,_,r,t,j10,rfl,R10,?_⟩;rw[Zt];refine Ed.go k (er WC) fun _ acP v U5 j11 acQ YI R11 acR acS k=>n0 _ _ ?_;have sA:bF H U5:=toS (WC.trans YI);have hp:(ws.headD (t.length,[])).1=(wd t j7).1:=by rw[<- hj7];rfl
  obtain⟨k1,k2⟩:=k;have KW:=hla.same (gq (((s8.trans s9).trans YF).trans YI) R1.Rk);obtain⟨las,hl1,hl2⟩:=KW;have Zw:=d8 hl1;have len:(las.map V.ref).length=ls.length:=by rw[ai];exact bg hl2
  refine⟨_,rfl,_,rfl,la,_,rfl,.inl (cI.of Zw),rfl,_,rfl,?_⟩;rw[len,pM];have bad:(¬(cn=ls.length/\ck=check (t.take (wd t j7).1)))->∀H',bF U5 H'->E (.ref A.qV) none H':=fun hb H' s'=>k2 (fun z=>hb (by
   have z1:=z.1;have z2:=z.2;show cn=ls.length/\_;rw[<- hp];exact⟨z1,z2⟩)) H' (sA.trans s')
  by_cases h1:cn=ls.length
  ·rw[aC h1];refine cg ⟨_,rfl,_,rfl,_,rfl,_,rfl,a,_,rfl,cI.of (sA _ _ ha),fun b hb=>?_⟩;have TV:pA (zs t) none (some ((wd t j7).1:Int))=zs (t.take (wd t j7).1):=KU;refine⟨b,t.take (wd t j7).1,rfl,cI.of (by rw[aj,TV]),aP (List.length_take_le' _ _) (by omega),fun H' s'=>⟨rfl,_,rfl,?_⟩⟩;rw[pM];by_cases h2:ck=check (t.take (wd t j7).1)
   ·rw[aC h2];refine cg ?_;refine⟨_,rfl,_,rfl,_,rfl,_,rfl,fun x TX nx Zx Zy=>?_⟩;refine⟨x,TX,_,_,_,_,rfl,aj,rfl,?_⟩;have sB:bF U5 H':=(aO hb).trans s';have sC:=sB.trans (iF (C:=A.k9) (o:=.ins A.k9 TX [("number",.int (n:Nat)),("day",.int (d:Nat)),("lines",.ref la),("text",.ref a)]) nx Zx Zy);refine k1 ⟨h1,by show ck=check (t.take (ws.headD (t.length,[])).1);rw[hp];exact h2⟩ x _ (sA.trans sC) ⟨TX,la,?_,?_⟩
    ·rw[cP ((sA.trans sB).free nx)];exact aj
    ·have hmono:bF (less U5 (upd (upd H dx (.own r)) r (.ins A.b5 dx []))) (less U5 H):=fun b' o q=>by
      obtain⟨q1,q2⟩:=nF q;have:H b'=none:=hG.free q1;rw[cP this];exact q2
     exact lV.same (x:=ls) ⟨las,hl1,hl2⟩ (hmono.trans (pF sC))
   ·rw[aK h2];exact cW (bad (fun z=>h2 z.2) H' ((aO hb).trans s'))
  ·rw[aK h1];exact cW (cW (bad (fun z=>h1 z.1) U5 (bF.refl _)))
end
end Gz
namespace Gz
open PySem PySem.Spec PyProof.Rows L2
open Vbptan (Simple Line Issue placed aimOf isVoid standing lastFor effect effective)
abbrev Pl:=Nat×Nat
def iH(A:Ad)(H:Hp)(a:Addr)(I:Issue):Prop:=∃tx,xg A H a tx I/\H tx=some (.lst (zs I.text))
def dF(A:Ad)(H:Hp)(l:Addr)(S:List Issue):Prop:=∃as:List Addr,H l=some (.lst (as.map V.ref))/\Paired (iH A H) as S
theorem iH.same{A:Ad}{H H':Hp}{a:Addr}{I:Issue}(h:iH A H a I)(s:bF H H'):iH A H' a I:=let ⟨tx,e,f⟩:=h;⟨tx,e.same s,s _ _ f⟩
theorem dF.same{A:Ad}{H H':Hp}{l:Addr}{S:List Issue}(h:dF A H l S)(s:bF H H'):dF A H' l S:=let ⟨as,e,f⟩:=h;⟨as,s _ _ e,bX (fun _ _ q=>q.same s) f⟩
abbrev gu(p:Pl):List Key:=[Sum.inl (p.1:Int),Sum.inl (p.2:Int)]
theorem oR{p q:Pl}(h:gu p=gu q):p=q:=by
 injection h with h1 h2;injection h2 with h2 _;injection h1 with h1;injection h2 with h2;exact Prod.ext (Int.ofNat_inj.mp h1) (Int.ofNat_inj.mp h2)
def Au(A:Ad)(H:Hp)(kv:List Key×V)(p:Pl×Line):Prop:=kv.1=gu p.1/\∃a,kv.2=.ref a/\ki A H a p.2
def oS(A:Ad)(H:Hp)(d:Addr)(ps:List (Pl×Line)):Prop:=∃kvs,H d=some (.dT kvs)/\Paired (Au A H) kvs ps
theorem Au.same{A:Ad}{H H':Hp}{kv:List Key×V}{p:Pl×Line}(h:Au A H kv p)(s:bF H H'):Au A H' kv p:=let ⟨e,a,e1,e2⟩:=h;⟨e,a,e1,e2.same s⟩
theorem oS.same{A:Ad}{H H':Hp}{d:Addr}{ps:List (Pl×Line)}(h:oS A H d ps)(s:bF H H'):oS A H' d ps:=let ⟨kvs,e,f⟩:=h;⟨kvs,s _ _ e,bX (fun _ _ q=>q.same s) f⟩
theorem NI{A:Ad}{H:Hp}{kvs:List (List Key×V)}{ps:List (Pl×Line)}(h:Paired (Au A H) kvs ps):kvs.map (·.1)=ps.map fun x=>gu x.1:=by
 induction h with
 |nil=>rfl
 |cons q _ ih=>rw[aV,aV,ih,q.1]
theorem FW{κ:Type}[DecidableEq κ]{kvs:List (κ×V)}{k:κ}{v:V}(h:k∉kvs.map (·.1)):putK kvs k v=kvs++[(k,v)]:=by
 unfold putK;have e:(kvs.any fun kv=>decide (kv.1=k))=false:=by
  rw[List.any_eq_false];intro kv hkv z;exact h (by rw[<- aH z];exact bV hkv)
 rw[e];rfl
def kj(I:Issue):List (Pl×Line):=(I.lines.zipIdx 1).map fun y=>((I.num,y.2),y.1)
theorem rL(I:Issue)(S:List Issue):placed (I::S)=kj I++placed S:=rfl
theorem DO{I:Issue}{j:Nat}{l:Line}(h:I.lines[j]? =some l):(kj I)[j]? =some ((I.num,j+1),l):=by
 unfold kj;rw[bf,List.getElem?_zipIdx,h];show some ((I.num,1+j),l)=_;rw[Nat.add_comm]
theorem FY(I:Issue):(kj I).length=I.lines.length:=by unfold kj;rw[ai,List.length_zipIdx]
theorem DP{S:List Issue}{i:Nat}{I:Issue}(h:S[i]? =some I):placed S=placed (S.take i)++(kj I++placed (S.drop (i+1))):=by
 have e:S=S.take i++(I::S.drop (i+1)):=by
  obtain⟨hi,he⟩:=List.getElem?_eq_some_iff.mp h;rw[<- he, <- dX hi,gO]
 have:placed S=placed (S.take i++(I::S.drop (i+1))):=by rw[<- e]
 rw[this];unfold Vbptan.placed;rw[fz];rfl
theorem FZ{S:List Issue}{i:Nat}{I:Issue}(h:S[i]? =some I):placed (S.take (i+1))=placed (S.take i)++kj I:=by
 rw[dO h];unfold Vbptan.placed;rw[fz];show _++(kj I++[])=_;rw[bq]
def TY(S:List Issue):Prop:=((placed S).map (·.1)).Nodup
theorem KY{ps:List (Pl×Line)}{p:Pl}(h:p∉ps.map (·.1)):gu p∉ps.map fun x=>gu x.1:=fun z=>by
 obtain⟨x,hx,e⟩:=List.mem_map.mp z;exact h (by rw[<- oR e];exact bV hx)
theorem dm{α β:Type}{F:α->β->Prop} :∀{l₁:List α} {l₂:List β} {i:Nat} {x:α},Paired F l₁ l₂->l₁[i]? =some x->∃y,l₂[i]? =some y/\F x y
 |_,_,_,_,.nil,e=>by simp at e
 |_,_,0,_,.cons r _,e=>by simp at e;subst e;exact⟨_,rfl,r⟩
 |_,_,i+1,x,.cons _ t,e=>by
  obtain⟨u,h1,h2⟩:=dm (i:=i) (x:=x) t (by simpa using e);exact⟨u,by simpa using h1,h2⟩
theorem TZ{α β:Type}{f:α->β}{a c:List α}{x:α}(h:((a++x::c).map f).Nodup):f x∉a.map f:=by
 rw[aX,aV,List.nodup_append]at h;exact fun z=>h.2.2 _ z _ aL rfl
section
variable{P:Program}{w:World}{K:PySem.W.Frag}{mg:Str->Option Value}{base:Heap}{A:Ad}{CX:nZ}
def NJ(A:Ad):Sp:=fun vs H Q _=>∃G l S,vs=[.ref l]/\bF G H/\dF A G l S/\TY S/\(placed S).length<=1000/\∀H' d kvs,H d=none->bF H H'->H' d=some (.dT kvs)->Paired (Au A G) kvs (placed S)->Q (.ref d) H'
theorem sJ(T:gQ K mg A):Fn P w K mg base ig 1 "placed_lines" ["issues"] (NJ A):=T.z9.fn fun f fd F=>by
 refine F.ok ir (fun vs H Q E h=>?_) (fun cdv A' outer s H vs Q E hr h=>?_)
 ·obtain⟨G,l,S,rfl,_⟩:=h;rfl
 ·obtain⟨G,l,S,rfl,sG,hI,nd,few,k⟩:=h;refine⟨_,ay (bH (i:=1) ir.nd rfl (Or.inl rfl) vc)
   (ay (i9 cH rfl (fG (pv 0)) (b8 (i:=2) ir.nd rfl (Or.inl rfl))
    (aD (i9 cH rfl (EU rfl T.bn.enum (ah (bY (pv 2) rfl) aA) (yx aY CU)) (nY rfl (dN (b8 (i:=3) ir.nd rfl (Or.inl rfl)) (dN (b8 (i:=4) ir.nd rfl (Or.inl rfl)) kC)))
     (aD (sj (eL hr) (pv 1) (o9 (ah (bY (pv 2) rfl) (ah (pv 3) aA))) (pv 4) rfl)))))
   (aD (aW (pv 1)))),?_⟩
  obtain⟨as,hl,hp⟩:=hI;intro d hd;have sm0:=aO (o:=.dT []) hd;have hlen:as.length=S.length:=bg hp;have hK:∀{H':Hp},bF H H'->cI K H' l (as.map V.ref):=fun s=>cI.of (s _ _ (sG _ _ hl));refine⟨_,rfl,l,rfl,⟨_,hK sm0⟩,mz (K:=K) (a:=l) (xs:=as.map V.ref) (fun i σ H'=>∃(v2 v3 v4:Option V),σ=[some (.ref l),some (.ref d),v2,v3,v4]/\bF H H'/\∃kvs,H' d=some (.dT kvs)/\Paired (Au A G) kvs (placed (S.take i)))
   ⟨none,none,none,rfl,sm0,[],aj,.nil⟩ (fun i σ H' _ ⟨_,_,_,_,sm,_⟩=>hK sm) ?_ ?_⟩
  ·rintro i x σ H' hi ⟨v2,v3,v4,rfl,sm,hP⟩;rw[bf]at hi;obtain⟨a,ha,rfl⟩:∃a,as[i]? =some a/\x=.ref a:=by
    cases e:as[i]? with
    |none=>rw[e]at hi;cases hi
    |some a=>rw[e]at hi;exact⟨a,rfl,(aQ hi).symm⟩
   obtain⟨I,hI,T3⟩:=dm hp ha;refine aR fun Pz pz=>?_;obtain⟨tx,⟨dx,ls,eI,OJ,el,pl⟩,htx⟩:=T3;refine pz ?_;have spl:=DP hI;unfold TY at nd;have hlen2:(placed (S.take i)).length+(kj I).length<=1000:=by
    rw[spl,au,au]at few;omega
   refine⟨_,rfl,a,_,dx,_,_,rfl,sm _ _ (sG _ _ eI),T.dh,T.yF,rfl,ls,_,rfl,rfl,cI.of (sm _ _ (sG _ _ el)),?_⟩;have NK:OJ.length=I.lines.length:=bg pl;refine wR I.lines.length (fun j σ xW=>∃(v3 v4:Option V),σ=[some (.ref l),some (.ref d),some (.ref a),v3,v4]/\bF H xW/\∃kvs,xW d=some (.dT kvs)/\Paired (Au A G) kvs (placed (S.take i)++(kj I).take j))
    ⟨v3,v4,rfl,sm,by rw[wm,bq];exact hP⟩ (fun j σ xW hj ⟨v3,v4,e,wY,XS⟩=>?_) (fun σ xW ⟨v3,v4,e,wY,XS⟩=>?_)
   ·subst e;have hjl:j<OJ.length:=by omega
    have hx:(OJ.map V.ref)[j]? =some (.ref OJ[j]):=by rw[bf,aM hjl];rfl
    refine⟨⟨_,_,cI.of (wY _ _ (sG _ _ el)),hx⟩,fun x H3 y=>?_⟩;obtain⟨T',x',rfl,hT,rfl,y⟩:=y;have ex:=y _ (cI.of (wY _ _ (sG _ _ el)));rw[hx]at ex;cases ex;refine aR fun Pz pz=>?_;obtain⟨ln,Rc,Zz⟩:=dm pl (aM hjl);refine pz ?_;have s3:=aO (o:=.tup [.int ((j:Nat)+1:Int),.ref OJ[j]]) hT;refine⟨T',_,rfl,lD.of aj,rfl,_,_,rfl,_,_,rfl,rfl,_,rfl,_,rfl,_,rfl,a,_,dx,_,_,rfl,s3 _ _ (wY _ _ (sG _ _ eI)),T.dh,T.gr,rfl,_,rfl,by show 2<=sizeLine;decide,fun q hq=>?_⟩;have s4:=aO (o:=.tup [.int (I.num:Nat),.int ((j:Nat)+1:Int)]) hq;refine aR fun Pz pz=>?_;obtain⟨kvs,hkd,hkp⟩:=XS;refine pz ?_;have ZA:=s4 _ _ (s3 _ _ hkd);have kl:kvs.length=(placed (S.take i)++(kj I).take j).length:=bg hkp;refine⟨d,_,rfl,yi.t (k:=gu (I.num,j+1)) ZA aj ?_,?_⟩
    ·rw[kl,au,b4];show _<2 ^ 24;omega
    ·have own:=DO Rc;have T4:placed S=(placed (S.take i)++(kj I).take j)++(((I.num,j+1),ln)::((kj I).drop (j+1)++placed (S.drop (i+1)))):=by
      rw[spl,bw]
      congr 1
      obtain⟨hj',he'⟩:=List.getElem?_eq_some_iff.mp own;have e2:kj I=(kj I).take j++(((I.num,j+1),ln)::(kj I).drop (j+1)):=by
       rw[<- he', <- dX hj',gO]
      have e3:kj I++placed (S.drop (i+1))=((kj I).take j++(((I.num,j+1),ln)::(kj I).drop (j+1)))++placed (S.drop (i+1)):=by rw[<- e2]
      rw[e3,bw];rfl
     rw[T4]at nd;have UY:=TZ (f:=fun x:Pl×Line=>x.1) nd;have ZC:gu (I.num,j+1)∉kvs.map (·.1):=by rw[NI hkp];exact KY UY
     rw[FW ZC];refine⟨_,_,rfl,fun b o e=>?_,kvs++[(gu (I.num,j+1),.ref OJ[j])],aj,?_⟩
     ·rw[aI (aS e hd)];exact s4 _ _ (s3 _ _ (wY b o e))
     ·rw[dO own, <- bw];exact iO hkp ⟨rfl,_,rfl,Zz⟩
   ·subst e;refine⟨⟨_,cI.of (wY _ _ (sG _ _ el)),by rw[ai];omega⟩,?_⟩;have e8:(kj I).take I.lines.length=kj I:=bN (by rw[FY];exact aq _);rw[e8, <- FZ hI]at XS;exact⟨_,_,_,rfl,wY,XS⟩
  ·rintro σ H' ⟨v2,v3,v4,rfl,sm,hP⟩;rw[ai,hlen,bL]at hP;refine aR fun Pz pz=>?_;obtain⟨kvs,h1,h2⟩:=hP;refine pz ?_;exact⟨_,rfl,k H' d kvs hd sm h1 h2⟩
end
theorem Jm{κ:Type}[DecidableEq κ]:∀{kvs:List (κ×V)} {i:Nat} {k:κ} {v:V},(kvs.map (·.1)).Nodup->kvs[i]? =some (k,v)->dc kvs k=some v
 |[],_,_,_,_,h=>by simp at h
 |p::r,0,k,v,_,h=>by
  simp at h;subst h;exact fE rfl
 |p::r,i+1,k,v,nd,h=>by
  have h':r[i]? =some (k,v):=by simpa using h
  rw[aV,tL]at nd;rw[fh (fun z=>nd.1 (by rw[z];exact bV (f:=fun x:κ×V=>x.1) (bW h')))];exact Jm nd.2 h'
theorem DQ{A:Ad}{H:Hp}{kvs:List (List Key×V)}{ps:List (Pl×Line)}{j:Nat}{y:Pl×Line}(h:Paired (Au A H) kvs ps)(nd:(ps.map (·.1)).Nodup)(hy:ps[j]? =some y):∃a,kvs[j]? =some (gu y.1,.ref a)/\dc kvs (gu y.1)=some (.ref a)/\ki A H a y.2:=by
 refine aR fun Pz pz=>?_;obtain⟨kv,hkv,e,a,e1,e2⟩:=wX h hy;refine pz ?_;have nd':(kvs.map (·.1)).Nodup:=by
  rw[NI h];have:(ps.map fun x=>gu x.1)=(ps.map (·.1)).map gu:=by rw[cX];rfl
  rw[this];rw[List.Nodup,cY];exact nd.imp fun h z=>h (oR z)
 have F0:kvs[j]? =some (gu y.1,.ref a):=by rw[hkv, <- e, <- e1]
 exact⟨a,F0,Jm nd' F0,e2⟩
theorem vR{A:Ad}{H:Hp}{kvs:List (List Key×V)}{ps:List (Pl×Line)}{y:Pl×Line}(h:Paired (Au A H) kvs ps)(nd:(ps.map (·.1)).Nodup)(hy:y∈ps):∃a,dc kvs (gu y.1)=some (.ref a)/\ki A H a y.2:=by
 obtain⟨j,hj⟩:=List.getElem?_of_mem hy;refine aR fun Pz pz=>?_;obtain⟨a,_,h1,h2⟩:=DQ h nd hj;refine pz ?_;exact⟨a,h1,h2⟩
theorem eS:∀(l:List (Pl×Line)),(standing l).Sublist l
 |[]=>.slnil
 |x::l=>by
  unfold standing;show(if _ then standing l else x::standing l).Sublist _;split
  ·exact(eS l).cons _
  ·exact(eS l).cons₂ _
theorem pQ:∀(l:List (Pl×Line)) (y:Pl×Line),y∈standing l->(aimOf y.2).isNone=false
 |[],y,h=>by cases h
 |x::l,y,h=>by
  have h:y∈(if(aimOf x.2).isNone=true\/((standing l).any fun y=>isVoid y.2&&aimOf y.2==some x.1)=true then standing l else x::standing l):=h;split at h
  ·exact pQ l y h
  ·rename_i c;rcases List.mem_cons.mp h with rfl|h
   ·exact Bool.eq_false_iff.mpr fun z=>c (.inl z)
   ·exact pQ l y h
abbrev stk(st:List (Pl×Line))(p:Pl):Bool:=st.any fun y=>isVoid y.2&&aimOf y.2==some p
theorem n9(x:Pl×Line)(l:List (Pl×Line)):standing (x::l)=if(aimOf x.2).isNone=true\/stk (standing l) x.1=true then standing l else x::standing l:=rfl
abbrev jI(st:List (Pl×Line)):List (List Key×V):=st.reverse.map fun x=>(gu x.1,V.bl true)
section
variable{P:Program}{w:World}{K:PySem.W.Frag}{mg:Str->Option Value}{base:Heap}{A:Ad}{CX:nZ}
def uC(A:Ad):Sp:=fun vs H Q _=>∃d ps,vs=[.ref d]/\oS A H d ps/\(ps.map (·.1)).Nodup/\ps.length<=1000/\∀H' e,H e=none->bF H H'->H' e=some (.dT (jI (standing ps)))->Q (.ref e) H'
theorem nI(T:gQ K mg A):Fn P w K mg base ig 1 "standing_corrections" ["lines"] (uC A):=T.pH.fn fun f fd F=>by
 refine F.ok dU (fun vs H Q E h=>?_) (fun cdv A' outer s H vs Q E hr h=>?_)
 ·obtain⟨d,ps,rfl,_⟩:=h;rfl
 ·refine aR fun Pz pz=>?_;obtain⟨d,ps,rfl,hP,nd,few,k⟩:=h;refine pz ?_;refine⟨_,ay (bH (i:=1) dU.nd rfl (Or.inl rfl) vc) (ay (bH (i:=2) dU.nd rfl (Or.inl rfl) vc)
   (ay (i9 cH rfl (EI rfl T.bn.KC (ah (oz (Ms rfl) rfl T.Wi PyProof.Rows.Boot.«list» (ah (pv 0) aA)) aA)) (b8 (i:=3) dU.nd rfl (Or.inl rfl))
    (ay (bH (i:=4) dU.nd rfl (Or.inl rfl) (gc (eL hr) (pv 0) (pv 3) (fun _ _=>rfl)))
    (aD (b7 (PW.pt (nX (bz CP (bY (pv 4) rfl) mq (bM _)) (nv (qx (oF (eL hr) (pv 3) (pv 2))))))
     (ay (sj (eL hr) (pv 1) (pv 3) mj rfl) (aD (b7 (bz yX (bY (pv 4) rfl) mq (bM _)) (aD (sj (eL hr) (pv 2) (bY (pv 4) rfl) mj rfl)) bC)))
     bC))))
   (aD (aW (pv 1))))),?_⟩
  refine aR fun Pz pz=>?_;obtain⟨kvs,hd,hp⟩:=hP;refine pz ?_;have vS:kvs.length=ps.length:=bg hp;intro e1 UZ e2 ER;have s1:=aO (o:=.dT []) UZ;have s2:=aO (o:=.dT []) ER;have WD:e2≠e1:=fun z=>by rw[z,aj]at ER;cases ER
  refine⟨_,rfl,d,kvs,rfl,.inl (s2 _ _ (s1 _ _ hd)),fun l qs hl hq=>?_⟩;have s3:=aO (o:=.lst (qs.map V.ref)) hl;have nl1:l≠e1:=fun z=>by rw[z,s2 _ _ aj]at hl;cases hl
  have nl2:l≠e2:=fun z=>by rw[z,aj]at hl;cases hl
  have WE:qs.length=ps.length:=by rw[bg hq,vS]
  have hq':Paired (fun q (kv:List Key×V)=>H q=some (.tup (kv.1.map kV))) qs kvs:=bX (fun q kv z=>by
   have n2:q≠e2:=fun y=>by rw[y,aj]at z;cases z
   rw[aI n2]at z;have n1:q≠e1:=fun y=>by rw[y,aj]at z;cases z
   rw[aI n1]at z;exact z) hq
  have L0:cI K (upd (upd (upd H e1 (.dT [])) e2 (.dT [])) l (.lst (qs.map V.ref))) l (qs.map V.ref):=cI.of aj;refine⟨l,_,rfl,L0,PU (K:=K) (a:=l) (xs:=qs.map V.ref) (fun i σ H'=>∃(v3 v4:Option V) (DR:List (List Key×V)),σ=[some (.ref d),some (.ref e1),some (.ref e2),v3,v4]/\bF H H'/\H' l=some (.lst (qs.map V.ref))/\
    H' e1=some (.dT (jI (standing (ps.drop (ps.length-i)))))/\H' e2=some (.dT DR)/\DR.length<=i/\∀p,(dc DR (gu p)).isSome=stk (standing (ps.drop (ps.length-i))) p)
   ⟨none,none,[],rfl,s1.trans (s2.trans s3),aj,?_,?_,aq _,fun p=>?_⟩ (fun i σ H' _ ⟨_,_,_,_,_,hl',_⟩=>cI.of hl') ?_ ?_⟩
  ·rw[Nat.sub_zero,lA];exact s3 _ _ (s2 _ _ aj)
  ·exact s3 _ _ aj
  ·rw[Nat.sub_zero,lA];rfl
  ·intro i x σ H' hi hx hz;refine aR fun Pz pz=>?_;obtain⟨v3,v4,DR,rfl,sm,hl',h1,h2,hsl,hst⟩:=hz;refine pz ?_;rw[ai,WE]at hi hx;rw[bf]at hx;obtain⟨q,hqi,rfl⟩:∃q,qs[ps.length-1-i]? =some q/\x=.ref q:=by
    cases e:qs[ps.length-1-i]? with
    |none=>rw[e]at hx;cases hx
    |some a=>rw[e]at hx;exact⟨a,rfl,(aQ hx).symm⟩
   have hj:ps.length-1-i<ps.length:=by omega
   refine aR fun Pz pz=>?_;obtain⟨a,hkv,hval,Zz⟩:=DQ hp nd (aM hj);refine pz ?_;refine aR fun Pz pz=>?_;obtain⟨kv,WG,hqt⟩:=dm hq' hqi;refine pz ?_;rw[hkv]at WG;cases WG;have Ro:ps.drop (ps.length-(i+1))=ps[ps.length-1-i]::ps.drop (ps.length-i):=by
    rw[show ps.length-(i+1)=ps.length-1-i by omega,dX hj,show ps.length-1-i+1=ps.length-i by omega]
   generalize hy:ps[ps.length-1-i]=y at *;have T5:=sm _ _ hqt;refine aR fun Pz pz=>?_;obtain⟨dx,va,U6,hla,lW,yr⟩:=Zz;refine pz ?_;have KW:=sm _ _ hla;refine⟨_,rfl,_,rfl,d,_,rfl,by rw[<- hval];exact fO.t (sm _ _ hd) T5,?_⟩;refine⟨_,rfl,a,_,dx,_,_,rfl,KW,T.kh,T.z0,rfl,rfl,_,rfl,?_⟩;rw[Ro];cases ha:aimOf y.2 with
   |none=>
    rw[ha]at lW;obtain rfl:va=.dY:=lW;rw[show standing (y::ps.drop (ps.length-i))=standing (ps.drop (ps.length-i)) by rw[n9,ha];exact aB (.inl rfl)];refine cg (cg ?_);exact⟨_,_,DR,rfl,sm,hl',h1,h2,by omega,hst⟩
   |some p=>
    rw[ha]at lW;obtain⟨ta,rfl,T6⟩:=lW;refine cW ?_;refine⟨_,rfl,_,rfl,e2,_,rfl,fO.t (k:=gu y.1) h2 T5,_,rfl,?_⟩;rw[hst y.1];by_cases hs:stk (standing (ps.drop (ps.length-i))) y.1=true
    ·rw[show standing (y::ps.drop (ps.length-i))=standing (ps.drop (ps.length-i)) by rw[n9];exact aB (.inr hs),hs];exact cg ⟨_,_,DR,rfl,sm,hl',h1,h2,by omega,hst⟩
    ·rw[show standing (y::ps.drop (ps.length-i))=y::standing (ps.drop (ps.length-i)) by rw[n9,ha];exact ao (by rintro (z|z);cases z;exact hs z),Bool.eq_false_iff.mpr hs];refine cW ?_;have sub:=eS (ps.drop (ps.length-i));have ZD:(standing (ps.drop (ps.length-i))).length<=ps.length:=aP sub.length_le (by rw[iW];omega);refine⟨_,rfl,_,rfl,e1,_,rfl,yi.t (k:=gu y.1) h1 T5 (by rw[ai,gy];show _<2 ^ 24;omega),?_⟩;have UY:gu y.1∉(jI (standing (ps.drop (ps.length-i)))).map (·.1):=fun z=>by
      rw[cX]at z;refine aR fun Pz pz=>?_;obtain⟨x,hx,ex⟩:=List.mem_map.mp z;refine pz ?_;have hx':=sub.subset (List.mem_reverse.mp hx);have ZE:((ps.drop (ps.length-(i+1))).map (·.1)).Nodup:=by rw[OF];exact nd.sublist (List.drop_sublist _ _)
      rw[Ro,aV,tL]at ZE;exact ZE.1 (by rw[<- oR ex];exact bV hx')
     rw[FW UY];have e1':jI (y::standing (ps.drop (ps.length-i)))=jI (standing (ps.drop (ps.length-i)))++[(gu y.1,.bl true)]:=by
      show List.map _ (y::standing _).reverse=_;rw[List.reverse_cons,aX];rfl
     have WH:bF H (upd H' e1 (.dT (jI (standing (ps.drop (ps.length-i)))++[(gu y.1,.bl true)]))):=fun b o e=>by
      rw[aI (aS e UZ)];exact sm b o e
     refine⟨_,rfl,a,_,dx,_,_,rfl,WH _ _ hla,T.kh,T.oK,rfl,rfl,_,rfl,?_⟩;have h2':upd H' e1 (.dT (jI (standing (ps.drop (ps.length-i)))++[(gu y.1,.bl true)])) e2=some (.dT DR):=by rw[aI WD];exact h2
     have hl2:upd H' e1 (.dT (jI (standing (ps.drop (ps.length-i)))++[(gu y.1,.bl true)])) l=some (.lst (qs.map V.ref)):=by rw[aI nl1];exact hl'
     cases hl3:y.2 with
     |simple sx=>rw[hl3]at ha;cases ha
     |fix pp sx=>
      rw[hl3]at yr;obtain⟨sa,rfl,_⟩:=yr;refine cg ⟨_,_,DR,rfl,WH,hl2,by rw[e1'];exact aj,h2',by omega,fun p'=>?_⟩;rw[hst p'];show _=(y::standing _).any _;rw[ff,hl3];rfl
     |void pp=>
      rw[hl3]at yr ha;obtain rfl:U6=.dY:=yr;obtain rfl:pp=p:=aQ ha;refine cW ⟨_,rfl,_,rfl,a,_,dx,_,_,rfl,WH _ _ hla,T.kh,T.z0,rfl,e2,_,rfl,yi.t (k:=gu pp) h2' (WH _ _ T6) (by show _<2 ^ 24;omega),?_⟩;refine⟨_,_,_,rfl,fun b o e=>?_,?_,?_,aj,?_,fun p'=>?_⟩
      ·have nb2:b≠e2:=fun z=>by rw[z,s1.free ER]at e;cases e
       rw[aI nb2];exact WH b o e
      ·rw[aI nl2];exact hl2
      ·rw[aI (bP WD),aj,e1']
      ·exact aP (fN _ _ _) (by omega)
      ·rw[mC];show _=(y::standing _).any _;rw[ff,hl3];by_cases hpp:p'=pp
       ·rw[hpp,aB rfl];show true=(true&&(some pp==some pp)||_);rw[A4];rfl
       ·rw[ao (fun z=>hpp (oR z)),hst p'];show _=((some pp==some p')||_);rw[show(some pp==some p')=false from beq_eq_false_iff_ne.mpr (fun z=>hpp (aQ z).symm),lS]
  ·intro σ H' hz;refine aR fun Pz pz=>?_;obtain⟨v3,v4,DR,rfl,sm,hl',h1,h2,hsl,hst⟩:=hz;refine pz ?_;rw[ai,WE,yO,oZ]at h1;exact⟨_,rfl,k H' e1 UZ sm h1⟩
end
abbrev Av(p:Pl):HO:=.tup [.int (p.1:Nat),.int (p.2:Nat)]
def NN(H:Hp)(o:Option V):Option (Pl×Line)->Prop
 |none=>o=none
 |some y=>∃q,o=some (.ref q)/\H q=some (Av y.1)
def WI(H:Hp)(e:Addr)(st:List (Pl×Line)):Prop:=∃kvs,H e=some (.dT kvs)/\∀p,NN H (dc kvs (gu p)) (lastFor st p)
theorem NN.same{H H':Hp}{o:Option V} :∀{y:Option (Pl×Line)},NN H o y->(∀b p,H b=some (Av p)->H' b=some (Av p))->NN H' o y
 |none,h,_=>h
 |some y,⟨q,e,h⟩,s=>⟨q,e,s _ _ h⟩
theorem vU(st:List (Pl×Line))(p:Pl):lastFor st p=st.reverse.find? fun y=>aimOf y.2==some p:=by
 unfold lastFor;rw[List.getLast?_eq_head?_reverse, <- List.filter_reverse,List.head?_filter]
theorem nJ{st:List (Pl×Line)}{p:Pl}{y:Pl×Line}(h:lastFor st p=some y):y∈st/\aimOf y.2=some p:=by
 rw[vU]at h;exact⟨List.mem_reverse.mp (fB h),by have:=CJ h;exact jo this⟩
section
variable{P:Program}{w:World}{K:PySem.W.Frag}{mg:Str->Option Value}{base:Heap}{A:Ad}{CX:nZ}
def HN(A:Ad):Sp:=fun vs H Q _=>∃d ps,vs=[.ref d]/\oS A H d ps/\(ps.map (·.1)).Nodup/\ps.length<=1000/\∀H' e,H e=none->bF H H'->WI H' e (standing ps)->Q (.ref e) H'
theorem xZ(T:gQ K mg A):Fn P w K mg base ig 2 "deciding_corrections" ["lines"] (HN A):=T.pI.fn fun f fd F=>by
 refine F.ok gC (fun vs H Q E h=>?_) (fun cdv A' outer s H vs Q E hr h=>?_)
 ·obtain⟨d,ps,rfl,_⟩:=h;rfl
 ·refine aR fun Pz pz=>?_;obtain⟨d,ps,rfl,hP,nd,few,k⟩:=h;refine pz ?_;refine⟨_,ay (bH (i:=1) gC.nd rfl (Or.inl rfl) vc)
   (ay (i9 cH rfl (MB (bI (nI T) hr bx (ah (pv 0) aA))) (b8 (i:=2) gC.nd rfl (Or.inl rfl))
    (aD (f9 (My (eL hr) (pv 1) (bY (gc (eL hr) (pv 0) (pv 2) (fun _ _=>rfl)) rfl) (pv 2) ⟨rfl,rfl,rfl,rfl⟩))))
   (aD (aW (pv 1)))),?_⟩
  intro e he;have s1:=aO (o:=.dT []) he;refine⟨_,rfl,d,ps,rfl,hP.same s1,nd,few,fun H1 e2 ER s2 h2=>?_⟩;have ne2:e2≠e:=fun z=>by rw[z,aj]at ER;cases ER
  have hfe:H e2=none:=s1.free ER;obtain⟨kvs,hd,hp⟩:=hP;generalize hst:standing ps=st at *;have ZD:st.length<=ps.length:=by rw[<- hst];exact(eS ps).length_le
  refine⟨e2,_,rfl,h2,fun o=>?_⟩;refine wR st.length (fun i σ H'=>∃(v2:Option V) (dk:List (List Key×V)),σ=[some (.ref d),some (.ref e),v2]/\bF H H'/\H' e2=some (.jy o (.dT (jI st)))/\H' e=some (.dT dk)/\dk.length<=i/\
    ∀p,NN H' (dc dk (gu p)) ((st.reverse.take i).find? fun y=>aimOf y.2==some p))
   ⟨none,[],rfl,fun b ob eb=>by rw[aI (aS eb hfe)];exact s2 _ _ (s1 _ _ eb),aj,by rw[aI (bP ne2)];exact s2 _ _ aj,aq _,fun p=>rfl⟩ (fun i σ H' hi ⟨v2,dk,e0,sm,hf,Jo,hdl,F1⟩=>?_) (fun σ H' ⟨v2,dk,e0,sm,hf,Jo,hdl,F1⟩=>?_)
  ·subst e0;have hl:(jI st).length=st.length:=by rw[ai,gy]
   refine⟨⟨hf,by rw[hl];exact hi⟩,fun x xW y=>?_⟩;refine aR fun Pz pz=>?_;obtain⟨rfl,key,v,q,hkv,rfl,hq⟩:=y;refine pz ?_;have hir:i<st.reverse.length:=by rw[gy];exact hi
   have Ly:st.reverse[i]? =some st.reverse[i]:=aM hir;generalize st.reverse[i]=y at Ly;have F0:(jI st)[i]? =some (gu y.1,.bl true):=by rw[bf,Ly];rfl
   rw[F0]at hkv;cases hkv;have F2:y∈st:=List.mem_reverse.mp (bW Ly);have hyps:y∈ps:=(eS ps).subset (by rw[hst];exact F2);refine aR fun Pz pz=>?_;obtain⟨a,hval,dx,va,U6,hla,lW,yr⟩:=vR hp nd hyps;refine pz ?_;have haS:=pQ ps y (by rw[hst];exact F2);cases ha:aimOf y.2 with
   |none=>rw[ha]at haS;cases haS
   |some p=>
    rw[ha]at lW;obtain⟨ta,rfl,T6⟩:=lW;have step:(st.reverse.take (i+1))=st.reverse.take i++[y]:=dO Ly;refine⟨_,rfl,e,rfl,.inr ⟨_,.inl Jo⟩,_,rfl,_,rfl,d,_,rfl,by rw[<- hval];exact fO.t (sm _ _ hd) hq,a,_,dx,_,_,rfl,sm _ _ hla,T.kh,T.z0,rfl,_,rfl,dk,gu p,ta,Jo,rfl,sm _ _ T6,by show _<2 ^ 24;omega,fun v hv=>?_,fun hv=>?_⟩
    ·refine⟨_,dk,rfl,sm,hf,Jo,by omega,fun p'=>?_⟩;rw[step,List.find?_append];have q0:=F1 p';cases hfd:(st.reverse.take i).find? fun y=>aimOf y.2==some p' with
     |some z=>rw[hfd]at q0;exact q0
     |none=>
      rw[hfd]at q0;have hne:p'≠p:=fun z=>by
       rw[z]at q0;have q0:dc dk (gu p)=none:=q0;rw[hv]at q0;cases q0
      have e3:([y].find? fun y=>aimOf y.2==some p')=none:=by
       rw[Gr,ha];exact ao (fun z=>hne (aQ (jo z)).symm)
      rw[e3];exact q0
    ·refine⟨_,_,rfl,fun b ob eb=>by rw[aI (aS eb he)];exact sm _ _ eb,by rw[aI ne2];exact hf,aj,aP (fN _ _ _) (by omega),fun p'=>?_⟩;have keep:∀b pp,xW b=some (Av pp)->upd xW e (.dT (putK dk (gu p) (.ref q))) b=some (Av pp):=fun b pp eb=>by rw[aI (ic eb Jo (by intro z;cases z))];exact eb
     rw[step,List.find?_append,mC];have q0:=F1 p';by_cases hpp:p'=p
     ·rw[hpp,aB rfl];rw[hpp]at q0;cases hfd:(st.reverse.take i).find? fun y=>aimOf y.2==some p with
      |some z=>
       rw[hfd]at q0;obtain⟨q',z1,_⟩:=q0;rw[hv]at z1;cases z1
      |none=>
       have e3:([y].find? fun y=>aimOf y.2==some p)=some y:=by
        rw[Gr,ha];exact aB (A4 _)
       rw[e3];exact⟨q,rfl,keep _ _ hq⟩
     ·rw[ao (fun z=>hpp (oR z))];have e3:([y].find? fun y=>aimOf y.2==some p')=none:=by
       rw[Gr,ha];exact ao (fun z=>hpp (aQ (jo z)).symm)
      rw[e3,Option.or_none];exact q0.same keep
  ·subst e0;have hl:(jI st).length=st.length:=by rw[ai,gy]
   refine⟨⟨hf,by rw[hl];exact aq _⟩,_,rfl,k H' e he sm ⟨dk,Jo,fun p=>?_⟩⟩;have q0:=F1 p;rw[bN (by rw[gy];exact aq _), <- vU]at q0;exact q0
def HP(A:Ad)(H0 H:Hp)(t:Addr)(x:Pl×Simple):Prop:=∃q a,H t=some (.tup [.ref q,.ref a])/\H q=some (Av x.1)/\gK A H0 a x.2
def T7(A:Ad)(G H:Hp)(e:Addr)(xs:List (Pl×Simple)):Prop:=∃ts:List Addr,H e=some (.lst (ts.map V.ref))/\Paired (HP A G H) ts xs
def qo(st:List (Pl×Line))(x:Pl×Line):Option (Pl×Simple):=match x.2 with
 | .simple s=>(effect st x.1 s).map fun t=>(x.1,t)
 |_=>none
theorem iI(l:List (Pl×Line)):effective l=l.filterMap (qo (standing l)):=rfl
def T8(A:Ad):Sp:=fun vs H Q _=>∃G l S,vs=[.ref l]/\bF G H/\dF A G l S/\TY S/\(placed S).length<=1000/\∀H' e,H e=none->bF H H'->T7 A G H' e (effective (placed S))->Q (.ref e) H'
theorem DS(T:gQ K mg A):Fn P w K mg base ig 3 "lines_in_the_end" ["issues"] (T8 A):=T.uw.fn fun f fd F=>by
 refine F.ok dJ (fun vs H Q E h=>?_) (fun cdv A' outer s H vs Q E hr h=>?_)
 ·obtain⟨G,l,S,rfl,_⟩:=h;rfl
 ·refine aR fun Pz pz=>?_;obtain⟨G,l,S,rfl,sG,hI,nd,few,k⟩:=h;refine pz ?_;refine⟨_,ay (bH (i:=1) dJ.nd rfl (Or.inl rfl) (bI (sJ T) hr bx (ah (pv 0) aA)))
   (ay (bH (i:=2) dJ.nd rfl (Or.inl rfl) (bI (xZ T) hr bx (ah (pv 1) aA)))
   (ay (bH (i:=3) dJ.nd rfl (Or.inl rfl) (b6 aA))
   (ay (i9 cH rfl (BX (pv 1)) (nY rfl (dN (b8 (i:=4) dJ.nd rfl (Or.inl rfl)) (dN (b8 (i:=5) dJ.nd rfl (Or.inl rfl)) kC)))
    (aD (b7 (bz yX (bY (pv 5) rfl) mq (bM _))
     (ay (bH (i:=6) dJ.nd rfl (Or.inl rfl) (bY (gc (eL hr) (pv 1) (EG (eL hr) (pv 2) (pv 4) (pv 4) ⟨rfl,rfl,rfl,rfl⟩) (fun _ _=>rfl)) rfl))
     (aD (b7 (bz CP (pv 6) mq (bM _)) (aD (qU (pv 3) (o9 (ah (pv 4) (ah (pv 6) aA))))) bC)))
     bC)))
   (aD (aW (pv 3)))))),?_⟩
  refine⟨_,rfl,G,l,S,rfl,sG,hI,nd,few,fun H1 d kvs hd s1 hkd hp=>?_⟩;have sG1:=sG.trans s1;unfold TY at nd;generalize placed S=ps at *;refine⟨_,rfl,d,ps,rfl,⟨kvs,hkd,bX (fun _ _ q=>q.same sG1) hp⟩,nd,few,fun H2 e he s2 hD=>⟨bu _,fun e3 Pp=>?_⟩⟩;have s3:=aO (o:=.lst []) Pp;obtain⟨dk,Jo,F1⟩:=hD;have vS:kvs.length=ps.length:=bg hp;have hd2:=s2 _ _ hkd;have ZF:e≠d:=fun z=>by rw[z,hkd]at he;cases he
  have WJ:e3≠d:=fun z=>by rw[z,hd2]at Pp;cases Pp
  have acZ:e3≠e:=fun z=>by rw[z,Jo]at Pp;cases Pp
  refine⟨_,rfl,d,kvs,rfl,s3 _ _ hd2,fun o=>?_⟩;generalize hst:standing ps=st at *;refine wR ps.length (fun i σ H'=>∃(v4 v5 v6:Option V) (ts:List Addr),σ=[some (.ref l),some (.ref d),some (.ref e),some (.ref e3),v4,v5,v6]/\SameBut d H2 H'/\H' d=some (.jy o (.dT kvs))/\H' e3=some (.lst (ts.map V.ref))/\ts.length<=i/\Paired (HP A G H') ts ((ps.take i).filterMap (qo st)))
   ⟨none,none,none,[],rfl,fun b ob eb n=>by rw[aI n];exact s3 _ _ eb,aj,by rw[aI WJ];exact aj,aq _,.nil⟩ (fun i σ H' hi ⟨v4,v5,v6,ts,e0,sb,hf,h3,htl,hX⟩=>?_) (fun σ H' ⟨v4,v5,v6,ts,e0,sb,hf,h3,htl,hX⟩=>?_)
  ·subst e0;refine⟨⟨hf,by rw[vS];exact hi⟩,fun x xW y=>?_⟩;refine aR fun Pz pz=>?_;obtain⟨T',key,v,q,hkv,rfl,hT,hq,rfl⟩:=y;refine pz ?_;have Ly:ps[i]? =some ps[i]:=aM hi;generalize ps[i]=y at Ly;refine aR fun Pz pz=>?_;obtain⟨a,F0,hval,dx,va,U6,hla,lW,yr⟩:=DQ hp nd Ly;refine pz ?_;rw[F0]at hkv;cases hkv;have s4:=aO (o:=.tup [.ref q,.ref a]) hT;have up:∀b ob,G b=some ob->(∀kv,ob≠.dT kv)->H' b=some ob:=fun b ob eb0 n=>by
    have eb:=sG1 _ _ eb0;exact sb _ _ (s2 _ _ eb) (fun z=>by rw[z,hkd]at eb;exact n _ (aQ eb).symm)
   have KW:=s4 _ _ (up _ _ hla (fun _ z=>by cases z));have hf':=s4 _ _ hf;have hq':upd H' T' (.tup [.ref q,.ref a]) q=some (Av y.1):=s4 _ _ hq;have h3':=s4 _ _ h3;have nT3:T'≠e3:=fun z=>by rw[z,h3]at hT;cases hT
   have sb':SameBut d H2 (upd H' T' (.tup [.ref q,.ref a])):=sb.trans s4.but;have X':Paired (HP A G (upd H' T' (.tup [.ref q,.ref a]))) ts ((ps.take i).filterMap (qo st)):=bX (fun t x ⟨q,a,z1,z2,z3⟩=>⟨q,a,s4 _ _ z1,s4 _ _ z2,z3⟩) hX;have step:(ps.take (i+1)).filterMap (qo st)=(ps.take i).filterMap (qo st)++[y].filterMap (qo st):=by rw[dO Ly,List.filterMap_append]
   have stay:qo st y=none->∀(v4 v5 v6:Option V),∃(ZG v5' v6':Option V) (ts:List Addr),([some (.ref l),some (.ref d),some (.ref e),some (.ref e3),v4,v5,v6]:L2.St)=[some (.ref l),some (.ref d),some (.ref e),some (.ref e3),ZG,v5',v6']/\SameBut d H2 (upd H' T' (.tup [.ref q,.ref a]))/\(upd H' T' (.tup [.ref q,.ref a])) d=some (.jy o (.dT kvs))/\(upd H' T' (.tup [.ref q,.ref a])) e3=some (.lst (ts.map V.ref))/\ts.length<=i+1/\Paired (HP A G (upd H' T' (.tup [.ref q,.ref a]))) ts ((ps.take (i+1)).filterMap (qo st)):=fun hn v4 v5 v6=>by
    refine⟨v4,v5,v6,ts,rfl,sb',hf',h3',by omega,?_⟩;have e9:[y].filterMap (qo st)=[]:=by rw[nt,hn];rfl
    rw[step,e9,bq];exact X'
   refine⟨T',_,rfl,lD.of aj,rfl,_,_,rfl,_,_,rfl,rfl,?_⟩;refine⟨_,rfl,a,_,dx,_,_,rfl,KW,T.kh,T.z0,rfl,rfl,_,rfl,?_⟩;cases hl:y.2 with
   |fix pp sx=>
    rw[hl]at lW;obtain⟨ta,rfl,T6⟩:=lW;exact cg (stay (by unfold qo;rw[hl]) _ _ _)
   |void pp=>
    rw[hl]at lW;obtain⟨ta,rfl,T6⟩:=lW;exact cg (stay (by unfold qo;rw[hl]) _ _ _)
   |simple sx=>
    rw[hl]at lW;obtain rfl:va=.dY:=lW;refine cW ?_;have eG:qo st y=(effect st y.1 sx).map fun t=>(y.1,t):=by unfold qo;rw[hl]
    have WK:upd H' T' (.tup [.ref q,.ref a]) e=some (.dT dk):=sb' _ _ Jo ZF;have KZ:=F1 y.1;have fin:∀(XT:V) (od:Option Simple),DG A G XT od->effect st y.1 sx=od->
      LG (p6 (En (fun x y H Q=>y=.dY/\Q (.bl (!decide (x=.dY))) H) (cT 6) (tC .dY))) (yS (Sa K "list" uY (cT 3) (cE (OV (cE (cT 4) (cE (cT 6) fW))) fW))) El
       {nx:=fun σ H'=>∃(v4 v5 v6:Option V) (ts:List Addr),σ=[some (.ref l),some (.ref d),some (.ref e),some (.ref e3),v4,v5,v6]/\SameBut d H2 H'/\H' d=some (.jy o (.dT kvs))/\H' e3=some (.lst (ts.map V.ref))/\ts.length<=i+1/\Paired (HP A G H') ts ((ps.take (i+1)).filterMap (qo st)),rt:=Q,ct:=fun σ H'=>∃(v4 v5 v6:Option V) (ts:List Addr),σ=[some (.ref l),some (.ref d),some (.ref e),some (.ref e3),v4,v5,v6]/\SameBut d H2 H'/\H' d=some (.jy o (.dT kvs))/\H' e3=some (.lst (ts.map V.ref))/\ts.length<=i+1/\Paired (HP A G H') ts ((ps.take (i+1)).filterMap (qo st)),bk:=sW (cT 3) {nx:=fun _ H'=>Q .dY H',rt:=Q}}
       [some (.ref l),some (.ref d),some (.ref e),some (.ref e3),some (.ref q),some (.ref a),some XT] (upd H' T' (.tup [.ref q,.ref a])):=fun XT od hso WL=>by
     refine⟨_,rfl,rfl,_,rfl,?_⟩;cases od with
     |none=>
      obtain rfl:XT=.dY:=hso;exact cg (stay (by rw[eG,WL];rfl) _ _ _)
     |some sy=>
      obtain⟨sa,rfl,hsa⟩:=hso;refine cW ⟨_,rfl,.inl ⟨rfl,_,cI.of h3'⟩,_,rfl,_,rfl,by show 2<=sizeLine;decide,fun t1 ht1=>?_⟩;have s5:=aO (o:=.tup [.ref q,.ref sa]) ht1;have h35:=s5 _ _ h3';refine⟨e3,_,_,rfl,rfl,h35,by rw[ai];show _<2 ^ 24;omega,?_⟩;have nt3:t1≠e3:=fun z=>by rw[z,h3']at ht1;cases ht1
      have JS:∀b xs,(upd (upd H' T' (.tup [.ref q,.ref a])) t1 (.tup [.ref q,.ref sa])) b=some (.tup xs)->upd (upd (upd H' T' (.tup [.ref q,.ref a])) t1 (.tup [.ref q,.ref sa])) e3 (.lst (ts.map V.ref++[.ref t1])) b=some (.tup xs):=fun b xs eb=>by rw[aI (ic eb h35 (by intro z;cases z))];exact eb
      refine⟨_,_,_,ts++[t1],rfl,fun b ob eb n=>?_,?_,?_,?_,?_⟩
      ·rw[aI (fun z=>by rw[z,Pp]at eb;cases eb)];exact s5 _ _ (sb' _ _ eb n)
      ·rw[aI (bP WJ)];exact s5 _ _ hf'
      ·rw[aj,aX];rfl
      ·rw[au];show ts.length+1<=_;omega
      ·have e9:[y].filterMap (qo st)=[(y.1,sy)]:=by rw[nt,eG,WL];rfl
       rw[step,e9];exact iO (bX (fun t x ⟨q,a,z1,z2,z3⟩=>⟨q,a,JS _ _ (s5 _ _ z1),JS _ _ (s5 _ _ z2),z3⟩) X') ⟨q,sa,JS _ _ aj,JS _ _ (s5 _ _ hq'),hsa⟩
    refine⟨_,rfl,_,rfl,e,rfl,.inr ⟨_,.inl WK⟩,_,rfl,_,rfl,_,fO.t (k:=gu y.1) WK hq',?_⟩;cases Ql:lastFor st y.1 with
    |none=>
     rw[Ql]at KZ;have KZ:dc dk (gu y.1)=none:=KZ;rw[KZ];refine⟨d,_,rfl,by rw[<- hval];exact .inr ⟨kvs,gu y.1,q,.inr ⟨o,hf'⟩,rfl,hq',rfl⟩,a,_,dx,_,_,rfl,KW,T.kh,T.oK,rfl,?_⟩;rw[hl]at yr;exact fin _ (some sx) yr (by unfold effect;rw[Ql])
    |some z=>
     rw[Ql]at KZ;obtain⟨q',hq1,hq2⟩:=KZ;rw[hq1];obtain⟨zm,za⟩:=nJ Ql;have XU:z∈ps:=(eS ps).subset (by rw[hst];exact zm);refine aR fun Pz pz=>?_;obtain⟨a2,NO,Ec,va2,Zd,T9,WM,Jp⟩:=vR hp nd XU;refine pz ?_;have ZH:=sb' _ _ hq2 (fun y=>by rw[y,hd2]at hq2;cases hq2);refine⟨d,_,rfl,by rw[<- NO];exact .inr ⟨kvs,gu z.1,q',.inr ⟨o,hf'⟩,rfl,ZH,rfl⟩,a2,_,Ec,_,_,rfl,s4 _ _ (up _ _ T9 (fun _ z=>by cases z)),T.kh,T.oK,rfl,?_⟩;obtain⟨zp,zl⟩:=z;refine fin _ (kQ zl) Jp ?_;unfold effect;rw[Ql];cases zl with
     |simple _=>cases za
     |fix _ _=>rfl
     |void _=>rfl
  ·subst e0;refine⟨⟨hf,by rw[vS];exact aq _⟩,_,rfl,k H' e3 ?_ ?_ ⟨ts,h3,?_⟩⟩
   ·exact(s1.trans s2).free Pp
   ·exact fun b ob eb=>sb _ _ (s2 _ _ (s1 _ _ eb)) (fun z=>by rw[z,hd]at eb;cases eb)
   ·rw[bL]at hX;rw[iI,hst];exact hX
end
open Vbptan (Simple Line Issue placed aimOf isVoid standing lastFor effect effective gaps issueAt sure fileOf isSet)
structure K1 (fs:List (Nat×List Nat)):Prop where
 tF:fs.Pairwise fun a b=>a.1<b.1
 code:∀x∈fs,10<=x.1/\x.1<=99
 val:∀x∈fs,x.2.length<=12
structure HQ (s:Simple):Prop where
 file:1<=fileOf s/\fileOf s<=999
 oh:K1 (fieldsOf s)
structure XW (I:Issue):Prop where
 num:1<=I.num/\I.num<=99
 lines:I.lines.length<=40
 text:I.text.length<=2000
 sim:∀l∈I.lines,∀s,kQ l=some s->HQ s
structure rM (S:List Issue):Prop where
 tF:S.Pairwise fun a b=>a.num<b.num
 all:∀I∈S,XW I
 few:S.length<=24
theorem rM.sub{S S':List Issue}(h:rM S)(s:S'.Sublist S):rM S':=⟨h.tF.sublist s,fun I hI=>h.all I (s.subset hI),aP s.length_le h.few⟩
theorem Aw:∀(S:List Issue),(∀I∈S,XW I)->(placed S).length<=40*S.length
 |[],_=>aq _
 |I::S,h=>by
  rw[rL,au,FY,az];have h1:=(h I aL).lines;have h2:=Aw S fun J hJ=>h J (aG _ hJ);omega
theorem rM.len{S:List Issue}(h:rM S):(placed S).length<=1000:=by
 have:=Aw S h.all;have:=h.few;omega
theorem vV{I:Issue}{x:Pl×Line}(h:x∈kj I):x.1.1=I.num:=by
 unfold kj at h;obtain⟨y,_,e⟩:=List.mem_map.mp h;rw[<- e]
theorem Ua(I:Issue):((kj I).map (·.1)).Nodup:=by
 unfold kj;rw[cX];show(List.map (fun y:Line×Nat=>(I.num,y.2)) _).Nodup;rw[List.Nodup,cY];have go:∀(l:List Line) (k:Nat),(l.zipIdx k).Pairwise fun a b=>a.2<b.2:=by
  intro l;induction l with
  |nil=>intro k;exact List.Pairwise.nil
  |cons x l ih=>
   intro k;rw[A5];refine List.Pairwise.cons (fun y hy=>?_) (ih (k+1));have:=List.le_snd_of_mem_zipIdx hy;show k<y.2;omega
 exact(go I.lines 1).imp fun h z=>by injection z with _ z;omega
theorem iJ:∀(S:List Issue),S.Pairwise (fun a b=>a.num<b.num)->TY S
 |[],_=>List.Pairwise.nil
 |I::S,h=>by
  unfold TY;rw[rL,aX,List.nodup_append];rw[dg]at h;refine⟨Ua I,iJ S h.2,fun a ha b hb z=>?_⟩;obtain⟨x,hx,ex⟩:=List.mem_map.mp ha;obtain⟨y,hy,ey⟩:=List.mem_map.mp hb;obtain⟨J,hJ,hy⟩:=List.mem_flatMap.mp hy;have e1:=vV hx;have e2:=vV (I:=J) hy;have:=h.1 J hJ;have e3:x.1=y.1:=(ex.trans z).trans ey.symm;rw[e3]at e1;omega
theorem nL(n:Int):∀ns:List Int,Lu (.int n) (ns.map V.int)=decide (n∈ns)
 |[]=>rfl
 |m::ns=>by
  unfold Lu;rw[aV,ff];have ih:=nL n ns;unfold Lu at ih;rw[ih];show((m==n)||_)=_;rw[cR,A8,Lp,aZ,aZ,iL];exact⟨fun h=>h.imp Eq.symm id,fun h=>h.imp Eq.symm id⟩
theorem jk:∀ns:List Int,(ns.map V.int).all uV=true
 |[]=>rfl
 |n::ns=>by rw[aV,ni,jk ns];rfl
abbrev x6(S:List Issue):List Int:=S.map fun I=>(I.num:Int)
theorem NP{S:List Issue}(h:S.Pairwise fun a b=>a.num<b.num){m:Int}(hm:m∈x6 S)(hle:∀y∈x6 S,y<=m):m=(Vbptan.last S:Nat):=by
 have hne:S≠[]:=fun z=>by rw[z]at hm;cases hm
 have e:Vbptan.last S=(S.getLast hne).num:=by
  unfold Vbptan.last;rw[List.getLast?_eq_some_getLast hne];rfl
 obtain⟨I,hI,rfl⟩:=List.mem_map.mp hm;have l1:=hle _ (bV (List.getLast_mem hne));have l2:I.num<=(S.getLast hne).num:=by
  rw[<- jP hne,kX]at h;rw[<- jP hne]at hI;rcases List.mem_append.mp hI with hI|hI
  ·exact kH (h.2.2 I hI _ (List.mem_singleton.mpr rfl))
  ·rw[List.mem_singleton.mp hI];exact aq _
 rw[e];have l1:((S.getLast hne).num:Int)<=(I.num:Int):=l1;omega
theorem Qm{S:List Issue}{n:Nat} :(issueAt S n).isNone= !decide ((n:Int)∈x6 S):=by
 unfold issueAt;rw[cR,Option.isNone_iff_eq_none,List.find?_eq_none,Bool.not_eq_true',yf];constructor
 ·intro h z;obtain⟨I,hI,e⟩:=List.mem_map.mp z;exact h I hI (beq_iff_eq.mpr (Int.ofNat_inj.mp e))
 ·intro h I hI z;exact h (List.mem_map.mpr ⟨I,hI,by rw[jo z]⟩)
theorem Jq(S:List Issue):gaps S=((List.range (Vbptan.last S)).map fun i=>i+1).filter fun n=>(issueAt S n).isNone:=rfl
def rN(S:List Issue)(i:Nat):List Nat:=((List.range i).map fun i=>i+1).filter fun n=>(issueAt S n).isNone
theorem F3(S:List Issue)(i:Nat):rN S (i+1)=rN S i++if(issueAt S (i+1)).isNone=true then [i+1]else []:=by
 unfold rN;rw[List.range_succ,aX,fH];show _++List.filter _ [i+1]=_
 congr 1
 rw[cD,g7]
theorem uD(S:List Issue)(i:Nat):(rN S i).length<=i:=by
 unfold rN;exact aP (b9 _ _) (by rw[ai,fU];exact aq _)
section
variable{P:Program}{w:World}{K:PySem.W.Frag}{mg:Str->Option Value}{base:Heap}{A:Ad}{CX:nZ}
theorem rO{as:List Addr}{i:Nat}{x:V}(h:(as.map V.ref)[i]? =some x):∃a,as[i]? =some a/\x=.ref a:=by
 rw[bf]at h;cases e:as[i]? with
 |none=>rw[e]at h;cases h
 |some a=>rw[e]at h;exact⟨a,rfl,(aQ h).symm⟩
theorem DT{S:List Issue}(ok:rM S):Vbptan.last S<=99:=by
 unfold Vbptan.last;cases e:S.getLast? with
 |none=>exact bu _
 |some I=>exact(ok.all I (List.mem_of_getLast? e)).num.2
def Ub(A:Ad):Sp:=fun vs H Q _=>∃l S,vs=[.ref l]/\dF A H l S/\rM S/\tE (zs (gaps S)) H Q
theorem Jr(T:gQ K mg A):Fn P w K mg base ig 1 "gaps_of" ["issues"] (Ub A):=T.KH.fn fun f fd F=>by
 refine F.ok kg (fun vs H Q E h=>?_) (fun cdv A' outer s H vs Q E hr h=>?_)
 ·obtain⟨l,S,rfl,_⟩:=h;rfl
 ·refine aR fun Pz pz=>?_;obtain⟨l,S,rfl,hI,ok,k⟩:=h;refine pz ?_;refine⟨_,ay (bH (i:=1) kg.nd rfl (Or.inr rfl) (oB (own:=[("issue",2)]) (te:=LQ K (cT 2) "number") rfl kg.nd (fG (pv 0)) (fM (by kernel_rfl)) (fun _ _ _ _ _=>b8 (i:=2) kg.nd rfl (Or.inl rfl)) (fun _ _ _ _ _=>lU) (fun _ _ _ _ _=>by exact bY (pv 2) rfl)))
   (ay (bH (i:=3) kg.nd rfl (Or.inl rfl) (IG rfl rfl T.bn.S1 (ah (pv 1) aA) (yx aY CU)))
   (aD (aW (oB (own:=[("number",4)]) (tt:=p6 (En (Q6 K true) (cT 4) (cT 1))) rfl kg.nd (JX rfl T.bn.S2 (ah aY (ah (eB k6 (pv 3) aY) aA))) (fM (by kernel_rfl)) (fun _ _ _ _ _=>b8 (i:=4) kg.nd rfl (Or.inl rfl))
    (fun _ _ _ _ _=>by exact u9 (bz uX (pv 4) (pv 1) rfl)) (fun _ _ _ _ _=>pv 4))))),?_⟩
  obtain⟨as,hl,hp⟩:=hI;refine⟨_,rfl,l,rfl,⟨_,cI.of hl⟩,fun D hD=>?_⟩;refine jA (K:=K) (a:=l) (xs:=as.map V.ref) (fun i H'=>bF H H'/\H' D=some (.lst (((x6 S).take i).map V.int))) ⟨aO hD,aj⟩ (fun i H' _ ⟨z,_⟩=>cI.of (z _ _ hl)) (fun i x H' hi ⟨z1,z2⟩=>?_) (fun H' ⟨z1,z2⟩=>?_)
  ·obtain⟨a,ha,rfl⟩:=rO hi;refine aR fun Pz pz=>?_;obtain⟨I,hI,tx,⟨dx,ls,eI,_⟩,_⟩:=dm hp ha;refine pz ?_;refine⟨rfl,_,rfl,a,_,dx,_,_,rfl,z1 _ _ eI,T.dh,T.gr,rfl,rK hD z1 z2 ?_ ?_⟩
   ·rw[ai,b4,ai];have:=ok.few;show min i S.length<2 ^ 24;omega
   ·have hn:(x6 S)[i]? =some (I.num:Int):=by rw[bf,hI];rfl
    rw[dO hn,aX];rfl
  ·have e0:(x6 S).take (as.map V.ref).length=x6 S:=bN (by rw[ai,ai,bg hp];exact aq _);rw[e0]at z2;refine⟨_,rfl,D,x6 S,_,rfl,rfl,cI.of z2,?_⟩;have fin:∀m:Int,m=(Vbptan.last S:Nat)->sW (UO (QZ (cE (tC (.int 1)) (cE (En (Lr fun i j=>.int (i+j)) (cT 3) (tC (.int 1))) fW))) (uS 4) (p6 (En (Q6 K true) (cT 4) (cT 1))) (cT 4) [4]) {nx:=fun _ H'=>Q .dY H',rt:=Q} [some (.ref l),some (.ref D),none,some (.int m),none] H':=fun m hm=>by
    have h99:=DT ok;refine⟨_,rfl,_,_,rfl,rfl,_,_,rfl,⟨by decide,by decide,by omega,by omega⟩,fun D2 ZI=>?_⟩;have e1:(m+1-1).toNat=Vbptan.last S:=by omega
    rw[e1];refine L8 (fun i xW=>bF H' xW/\xW D2=some (.lst (zs (rN S i)))) ⟨aO ZI,aj⟩ (fun i xW hi ⟨y1,y2⟩=>?_) (fun xW ⟨y1,y2⟩=>?_)
    ·refine⟨rfl,_,rfl,_,rfl,D,_,rfl,.inl (cI.of (y1 _ _ z2)),rfl,jk _,_,rfl,?_⟩;have e2:(1:Int)+(i:Int)=((i+1:Nat):Int):=by omega
     rw[nL,e2];have q:=Qm (S:=S) (n:=i+1);have sc:=F3 S i;refine gm (fun hc=>?_) (fun hc=>?_)
     ·have hc':(issueAt S (i+1)).isNone=true:=by rw[q];exact hc
      rw[aB hc']at sc;refine⟨_,rfl,rK ZI y1 y2 ?_ ?_⟩
      ·rw[cF];have:=uD S i;show _<2 ^ 24;omega
      ·rw[sc];show List.map _ _=_;rw[aX];rfl
     ·have hc':¬(issueAt S (i+1)).isNone=true:=by rw[q];exact hc
      rw[ao hc',bq]at sc;exact⟨y1,by rw[sc];exact y2⟩
    ·exact k xW D2 (z1.free ZI) (z1.trans y1) y2
   refine⟨fun hn=>fin 0 ?_,fun m hm hle=>fin m (NP ok.tF hm hle)⟩;have:S=[]:=List.map_eq_nil_iff.mp hn;rw[this];rfl
theorem NQ(S:List Issue):(gaps S).Pairwise (· < ·):=by
 rw[Jq];refine Ea fj ?_;rw[cY];exact List.pairwise_lt_range.imp fun h=>by omega
theorem NR{S:List Issue}{g:Nat}(h:g∈gaps S):1<=g:=by
 rw[Jq]at h;obtain⟨i,_,e⟩:=List.mem_map.mp (List.mem_filter.mp h).1;omega
theorem NS{l:List Nat}(h:l.Pairwise (· < ·)){m:Int}(hm:m∈l.map fun c:Nat=>(c:Int))(hle:∀y∈l.map (fun c:Nat=>(c:Int)),y<=m):∃g:Nat,l.getLast? =some g/\m=(g:Int):=by
 have hne:l≠[]:=fun z=>by rw[z]at hm;cases hm
 refine⟨l.getLast hne,List.getLast?_eq_some_getLast hne,?_⟩;obtain⟨x,hx,rfl⟩:=List.mem_map.mp hm;have l1:((l.getLast hne:Nat):Int)<=(x:Int):=hle _ (bV (List.getLast_mem hne));have l2:x<=l.getLast hne:=by
  rw[<- jP hne,kX]at h;rw[<- jP hne]at hx;rcases List.mem_append.mp hx with hx|hx
  ·exact kH (h.2.2 x hx _ (List.mem_singleton.mpr rfl))
  ·rw[List.mem_singleton.mp hx];exact aq _
 omega
def Uc(A:Ad):Sp:=fun vs H Q _=>∃l S,∃n:Nat,vs=[.ref l,.int (n:Nat)]/\dF A H l S/\rM S/\∀H',bF H H'->Q (.bl (sure S n)) H'
theorem Qn(T:gQ K mg A):Fn P w K mg base ig 4 "is_sure" ["issues","file"] (Uc A):=T.KI.fn fun f fd F=>by
 refine F.ok sE (fun vs H Q E h=>?_) (fun cdv A' outer s H vs Q E hr h=>?_)
 ·obtain⟨l,S,n,rfl,_⟩:=h;rfl
 ·refine aR fun Pz pz=>?_;obtain⟨l,S,n,rfl,hI,ok,k⟩:=h;refine pz ?_;refine⟨_,ay (bH (i:=2) sE.nd rfl (Or.inl rfl) (IG rfl rfl T.bn.S1 (ah (bI (Jr T) hr bx (ah (pv 0) aA)) aA) (yx aY CU)))
   (ay (b7 (bz gk (pv 2) aY (bM _)) (aD (aW mj)) bC)
   (ay (i9 cH rfl (fG (bI (DS T) hr bx (ah (pv 0) aA))) (nY rfl (dN (b8 (i:=3) sE.nd rfl (Or.inl rfl)) (dN (b8 (i:=4) sE.nd rfl (Or.inl rfl)) kC)))
    (aD (b7 (PW.pt (nX (bz yW (fJ iQ (pv 3) aY (fun _ _=>rfl)) (pv 2) (bM _)) (nX (bz gk (bY (pv 4) rfl) (pv 1) (bM _)) (nv (bz LL (bY (pv 4) rfl) eK (bM _))))))
     (aD (aW mj)) bC)))
   (aD (aW mj)))),?_⟩
  refine⟨_,rfl,l,S,rfl,hI,ok,fun H1 g1 hg s1 h1=>?_⟩;refine⟨g1,(gaps S).map (fun c:Nat=>(c:Int)),_,rfl,rfl,cI.of (by rw[<- Ji];exact h1),fun hn=>?_,fun m hm hle=>?_⟩
  ·refine⟨_,rfl,rfl,_,rfl,cW ?_⟩;have e:gaps S=[]:=List.map_eq_nil_iff.mp hn;have q:=k H1 s1;unfold Vbptan.sure at q;rw[e]at q;exact q
  ·obtain⟨g,hgl,rfl⟩:=NS (NQ S) hm hle;have gp:=NR (List.mem_of_getLast? hgl);have es:sure S n=(effective (placed S)).any fun x=>decide (g<x.1.1)&&(fileOf x.2==n&& !isSet x.2):=by
    unfold Vbptan.sure;rw[hgl]
   refine⟨_,rfl,rfl,_,rfl,?_⟩;have e0:decide (V.int (g:Int)=V.int 0)=false:=aK (fun z=>by injection z with z;omega);rw[e0];refine cg ?_;refine⟨_,rfl,H,l,S,rfl,s1,hI,iJ S ok.tF,ok.len,fun H2 e he s2 hE=>?_⟩;obtain⟨ts,ht,hX⟩:=hE;refine⟨e,rfl,⟨_,cI.of ht⟩,mz (K:=K) (a:=e) (xs:=ts.map V.ref) (fun i σ H'=>H'=H2/\(∃(v3 v4:Option V),σ=[some (.ref l),some (.int (n:Nat)),some (.int (g:Nat)),v3,v4])/\(((effective (placed S)).take i).any fun x=>decide (g<x.1.1)&&(fileOf x.2==n&& !isSet x.2))=false)
    ⟨rfl,⟨none,none,rfl⟩,rfl⟩ (fun i σ H' _ ⟨z,_⟩=>by rw[z];exact cI.of ht) ?_ ?_⟩
   ·intro i x σ H' hi hz;refine aR fun Pz pz=>?_;obtain⟨rfl,⟨v3,v4,rfl⟩,hno⟩:=hz;refine pz ?_;obtain⟨t,Ud,rfl⟩:=rO hi;refine aR fun Pz pz=>?_;obtain⟨y,hy,q,a,z1,z2,dx,d,z3,z4⟩:=dm hX Ud;refine pz ?_;have z3:=(s1.trans s2) _ _ z3;have step:((effective (placed S)).take (i+1)).any (fun x=>decide (g<x.1.1)&&(fileOf x.2==n&& !isSet x.2))=(decide (g<y.1.1)&&(fileOf y.2==n&& !isSet y.2)):=by
     rw[dO hy,List.any_append,hno,lS,ff,List.any_nil,g9]
    have yes:(decide (g<y.1.1)&&(fileOf y.2==n&& !isSet y.2))=true->Q (.bl true) H':=fun h=>by
     have:sure S n=true:=by
      rw[es,lB];exact⟨y,bW hy,h⟩
     have q:=k H' (s1.trans s2);rw[this]at q;exact q
    have no:(decide (g<y.1.1)&&(fileOf y.2==n&& !isSet y.2))=false->∀v3 v4:Option V,H'=H'/\(∃(v3' ZG:Option V),([some (.ref l),some (.int (n:Nat)),some (.int (g:Nat)),v3,v4]:L2.St)=[some (.ref l),some (.int (n:Nat)),some (.int (g:Nat)),v3',ZG])/\(((effective (placed S)).take (i+1)).any fun x=>decide (g<x.1.1)&&(fileOf x.2==n&& !isSet x.2))=false:=fun h v3 v4=>⟨rfl,⟨v3,v4,rfl⟩,step.trans h⟩
    refine⟨t,_,rfl,lD.of z1,rfl,_,_,rfl,_,_,rfl,rfl,?_⟩;refine⟨_,rfl,q,_,_,_,rfl,rfl,lD.of z2,cB (j:=0) rfl,_,rfl,_,_,rfl,rfl,_,rfl,?_⟩;refine gm (fun c1=>?_) (fun c1=>?_)
    ·have Ue:=aH c1;have b1:decide (g<y.1.1)=true:=aC (by omega);rw[b1,g8]at yes no;refine⟨_,rfl,a,_,dx,_,_,rfl,z3,T.eE,T.rC,rfl,_,rfl,rfl,_,rfl,?_⟩;rw[pM];refine gm (fun c2=>?_) (fun c2=>?_)
     ·have b2:(fileOf y.2==n)=true:=beq_iff_eq.mpr (aH c2);rw[b2,g8]at yes no;refine⟨_,rfl,a,_,dx,_,_,rfl,z3,T.eE,T.w6,rfl,rfl,_,rfl,?_⟩;cases hv:y.2 with
      |new n' fs=>
       rw[hv]at yes;exact cW (yes rfl)
      |set n' c v=>
       rw[hv]at no;exact cg (no rfl _ _)
      |drop n'=>
       rw[hv]at yes;exact cW (yes rfl)
     ·have b2:(fileOf y.2==n)=false:=beq_eq_false_iff_ne.mpr (fun z=>c2 (aC z));rw[b2]at no;exact cg (no rfl _ _)
    ·have b1:decide (g<y.1.1)=false:=aK (fun z=>c1 (aC (by omega)));rw[b1]at no;exact cg (no rfl _ _)
   ·intro σ H' hz;refine aR fun Pz pz=>?_;obtain⟨rfl,⟨v3,v4,rfl⟩,hno⟩:=hz;refine pz ?_;rw[bN (by rw[ai,bg hX];exact aq _), <- es]at hno;have q:=k H' (s1.trans s2);rw[hno]at q;exact q
end
end Gz
namespace Gz
open PySem PySem.Spec PyProof.Rows L2
open Vbptan (Simple Line Issue placed effective fileOf Fields Register putField putFile fileIn done register upTo)
def iy(fs:List (Nat×List Nat))(c:Nat):Option (List Nat):=(fs.find? fun x=>x.1==c).map fun x=>x.2
theorem gF(x:Nat×List Nat)(fs:List (Nat×List Nat))(c:Nat):iy (x::fs) c=if x.1=c then some x.2 else iy fs c:=by
 unfold iy;rw[dQ];by_cases h:x.1=c
 ·rw[aB h,show(x.1==c)=true from beq_iff_eq.mpr h];rfl
 ·rw[ao h,show(x.1==c)=false from beq_eq_false_iff_ne.mpr h]
theorem fq(x:Nat×List (Nat×List Nat))(R:List (Nat×List (Nat×List Nat)))(n:Nat):fileIn (x::R) n=if x.1=n then some x.2 else fileIn R n:=by
 unfold fileIn;rw[dQ];by_cases h:x.1=n
 ·rw[aB h,show(x.1==n)=true from beq_iff_eq.mpr h];rfl
 ·rw[ao h,show(x.1==n)=false from beq_eq_false_iff_ne.mpr h]
theorem Cm(c:Nat)(v:List Nat):∀(fs:List (Nat×List Nat)) (c':Nat),iy (putField c v fs) c'=if c'=c then some v else iy fs c'
 |[],c'=>by
  unfold putField;rw[gF];by_cases h:c'=c
  ·rw[aB h,aB h.symm]
  ·rw[ao h,ao (bP h)]
 |x::l,c'=>by
  unfold putField;by_cases h1:c<x.1
  ·rw[aB h1,gF];by_cases h:c'=c
   ·rw[aB h,aB h.symm]
   ·rw[ao h,ao (bP h)]
  ·rw[ao h1];by_cases h2:c=x.1
   ·rw[aB h2,gF];by_cases h:c'=c
    ·rw[aB h,aB h.symm]
    ·rw[ao h,ao (bP h),gF,ao (fun z=>h (z.symm.trans h2.symm))]
   ·rw[ao h2,gF,Cm c v l c',gF];by_cases h:c'=c
    ·rw[aB h,ao (fun z=>h2 (h.symm.trans z.symm)),aB h]
    ·rw[ao h,ao h]
theorem uE(n:Nat)(f:List (Nat×List Nat)):∀(R:List (Nat×List (Nat×List Nat))) (n':Nat),fileIn (putFile n f R) n'=if n'=n then some f else fileIn R n'
 |[],c'=>by
  unfold putFile;rw[fq];by_cases h:c'=n
  ·rw[aB h,aB h.symm]
  ·rw[ao h,ao (bP h)]
 |x::l,c'=>by
  unfold putFile;by_cases h1:n<x.1
  ·rw[aB h1,fq];by_cases h:c'=n
   ·rw[aB h,aB h.symm]
   ·rw[ao h,ao (bP h)]
  ·rw[ao h1];by_cases h2:n=x.1
   ·rw[aB h2,fq];by_cases h:c'=n
    ·rw[aB h,aB h.symm]
    ·rw[ao h,ao (bP h),fq,ao (fun z=>h (z.symm.trans h2.symm))]
   ·rw[ao h2,fq,uE n f l c',fq];by_cases h:c'=n
    ·rw[aB h,ao (fun z=>h2 (h.symm.trans z.symm)),aB h]
    ·rw[ao h,ao h]
theorem nM(n:Nat):∀(R:List (Nat×List (Nat×List Nat))) (n':Nat),fileIn (R.filter fun x=>x.1 != n) n'=if n'=n then none else fileIn R n'
 |[],n'=>by
  by_cases h:n'=n
  ·rw[aB h];rfl
  ·rw[ao h];rfl
 |x::R,n'=>by
  rw[cD];by_cases h1:x.1=n
  ·rw[ao (by rw[h1];simp),nM n R n',fq];by_cases h:n'=n
   ·rw[aB h,aB h]
   ·rw[ao h,ao h,ao (fun z=>h (z.symm.trans h1))]
  ·rw[aB (by simpa using h1),fq,nM n R n',fq];by_cases h:n'=n
   ·rw[aB h,ao (fun z=>h1 (z.trans h)),aB h]
   ·rw[ao h,ao h]
structure DU (R:List (Nat×List (Nat×List Nat))):Prop where
 tF:R.Pairwise fun a b=>a.1<b.1
 file:∀x∈R,1<=x.1/\x.1<=999
 oh:∀x∈R,K1 x.2
theorem lX{c:Nat}{v:List Nat} :∀{fs:List (Nat×List Nat)} {x:Nat×List Nat},x∈putField c v fs->x=(c,v)\/x∈fs
 |[],x,h=>.inl (List.mem_singleton.mp h)
 |y::l,x,h=>by
  unfold putField at h;split at h
  ·rcases List.mem_cons.mp h with h|h
   ·exact .inl h
   ·exact .inr h
  ·split at h
   ·rcases List.mem_cons.mp h with h|h
    ·exact .inl h
    ·exact .inr (aG _ h)
   ·rcases List.mem_cons.mp h with h|h
    ·exact .inr (by rw[h];exact aL)
    ·rcases lX h with h|h
     ·exact .inl h
     ·exact .inr (aG _ h)
theorem vW{c:Nat}{v:List Nat} :∀{fs:List (Nat×List Nat)},fs.Pairwise (fun a b=>a.1<b.1)->(putField c v fs).Pairwise fun a b=>a.1<b.1
 |[],_=>nR _ _
 |y::l,h=>by
  rw[dg]at h;unfold putField;split
  ·rename_i c1;refine List.Pairwise.cons (fun x hx=>?_) (List.Pairwise.cons h.1 h.2);rcases List.mem_cons.mp hx with rfl|hx
   ·exact c1
   ·exact nU c1 (h.1 x hx)
  ·split
   ·rename_i c1 c2;refine List.Pairwise.cons (fun x hx=>?_) h.2;show c<x.1;rw[c2];exact h.1 x hx
   ·rename_i c1 c2;refine List.Pairwise.cons (fun x hx=>?_) (vW h.2);rcases lX hx with rfl|hx
    ·show y.1<c;omega
    ·exact h.1 x hx
theorem nN{c:Nat}{v:List (Nat×List Nat)} :∀{fs:List (Nat×List (Nat×List Nat))} {x:Nat×List (Nat×List Nat)},x∈putFile c v fs->x=(c,v)\/x∈fs
 |[],x,h=>.inl (List.mem_singleton.mp h)
 |y::l,x,h=>by
  unfold putFile at h;split at h
  ·rcases List.mem_cons.mp h with h|h
   ·exact .inl h
   ·exact .inr h
  ·split at h
   ·rcases List.mem_cons.mp h with h|h
    ·exact .inl h
    ·exact .inr (aG _ h)
   ·rcases List.mem_cons.mp h with h|h
    ·exact .inr (by rw[h];exact aL)
    ·rcases nN h with h|h
     ·exact .inl h
     ·exact .inr (aG _ h)
theorem x8{c:Nat}{v:List (Nat×List Nat)} :∀{fs:List (Nat×List (Nat×List Nat))},fs.Pairwise (fun a b=>a.1<b.1)->(putFile c v fs).Pairwise fun a b=>a.1<b.1
 |[],_=>nR _ _
 |y::l,h=>by
  rw[dg]at h;unfold putFile;split
  ·rename_i c1;refine List.Pairwise.cons (fun x hx=>?_) (List.Pairwise.cons h.1 h.2);rcases List.mem_cons.mp hx with rfl|hx
   ·exact c1
   ·exact nU c1 (h.1 x hx)
  ·split
   ·rename_i c1 c2;refine List.Pairwise.cons (fun x hx=>?_) h.2;show c<x.1;rw[c2];exact h.1 x hx
   ·rename_i c1 c2;refine List.Pairwise.cons (fun x hx=>?_) (x8 h.2);rcases nN hx with rfl|hx
    ·show y.1<c;omega
    ·exact h.1 x hx
theorem gG{R:List (Nat×List (Nat×List Nat))}{n:Nat}{f:List (Nat×List Nat)}(h:fileIn R n=some f):(n,f)∈R:=by
 unfold fileIn at h;cases e:R.find? fun x=>x.1==n with
 |none=>rw[e]at h;cases h
 |some y=>
  rw[e]at h;have h1:=CJ e;have h2:=fB e;have:y=(n,f):=Prod.ext (jo h1) (aQ h);rw[<- this];exact h2
theorem K1.put{fs:List (Nat×List Nat)}{c:Nat}{v:List Nat}(h:K1 fs)(hc:10<=c/\c<=99)(hv:v.length<=12):K1 (putField c v fs):=
 ⟨vW h.tF,fun x hx=>by rcases lX hx with rfl|hx;exact hc;exact h.code x hx,fun x hx=>by rcases lX hx with rfl|hx;exact hv;exact h.val x hx⟩
theorem DU.put{R:List (Nat×List (Nat×List Nat))}{n:Nat}{f:List (Nat×List Nat)}(h:DU R)(hn:1<=n/\n<=999)(hf:K1 f):DU (putFile n f R):=
 ⟨x8 h.tF,fun x hx=>by rcases nN hx with rfl|hx;exact hn;exact h.file x hx,fun x hx=>by rcases nN hx with rfl|hx;exact hf;exact h.oh x hx⟩
theorem DU.done{R:List (Nat×List (Nat×List Nat))}{s:Simple}(h:DU R)(ok:HQ s):DU (done R s):=by
 cases s with
 |new n l=>exact h.put ok.file ok.oh
 |set n c v=>
  show DU (match fileIn R n with
   |some f=>putFile n (putField c v f) R
   |none=>R)
  cases e:fileIn R n with
  |none=>exact h
  |some f=>exact h.put ok.file ((h.oh _ (gG e)).put (ok.oh.code (c,v) aL) (ok.oh.val (c,v) aL))
 |drop n=>exact⟨h.tF.sublist fj,fun x hx=>h.file x (List.mem_filter.mp hx).1,fun x hx=>h.oh x (List.mem_filter.mp hx).1⟩
theorem Co:∀{fs:List (Nat×List Nat)} {lo:Nat},fs.Pairwise (fun a b=>a.1<b.1)->(∀x∈fs,lo<=x.1/\x.1<=99)->fs.length<=100-lo
 |[],_,_,_=>bu _
 |x::l,lo,h,hc=>by
  rw[dg]at h;have h0:=hc x aL;have ih:=Co (lo:=x.1+1) h.2 fun y hy=>⟨h.1 y hy,(hc y (aG _ hy)).2⟩
  rw[az];omega
theorem K1.len{fs:List (Nat×List Nat)}(h:K1 fs):fs.length<=90:=Co (lo:=10) h.tF h.code
def rP(kvs:List (Key×V)):Prop:=(kvs.map (·.1)).Nodup/\∀kv∈kvs,∃n:Nat,kv.1=Sum.inl (n:Int)
abbrev kN(n:Nat):Key:=Sum.inl (n:Int)
theorem mW{n m:Nat}(h:kN n=kN m):n=m:=by injection h with h;exact Int.ofNat_inj.mp h
def Qo(H0:Hp)(o:Option V):Option (List Nat)->Prop
 |none=>o=none
 |some v=>∃b,o=some (.ref b)/\H0 b=some (.lst (zs v))
def Js(H0 H:Hp)(d:Addr)(fs:List (Nat×List Nat))(m:Nat):Prop:=H0 d=none/\∃kvs,H d=some (.dK kvs)/\kvs.length<=90+m/\rP kvs/\∀c,Qo H0 (dc kvs (kN c)) (iy fs c)
def DV(H0 H:Hp)(f:Addr)(m:Nat)(o:Option V):Option (List (Nat×List Nat))->Prop
 |none=>o=none
 |some fs=>∃d,o=some (.ref d)/\d≠f/\Js H0 H d fs m
structure NT (H0 H:Hp) (f:Addr) (R:List (Nat×List (Nat×List Nat))) (m:Nat) (kvs:List (Key×V)):Prop where
 at_:H f=some (.dK kvs)
 few:kvs.length<=m
 keys:rP kvs
 val:∀n,DV H0 H f m (dc kvs (kN n)) (fileIn R n)
 inj:∀n n' d,dc kvs (kN n)=some (.ref d)->dc kvs (kN n')=some (.ref d)->n=n'
def gU(H0 H:Hp)(f:Addr)(R:List (Nat×List (Nat×List Nat)))(m:Nat):Prop:=H0 f=none/\∃kvs,NT H0 H f R m kvs
theorem Js.mono{H0 H H':Hp}{d:Addr}{fs:List (Nat×List Nat)}{m m':Nat}(h:Js H0 H d fs m)(hm:m<=m')(e:H' d=H d):Js H0 H' d fs m':=by
 obtain⟨h0,kvs,h1,h2,h3⟩:=h;exact⟨h0,kvs,by rw[e];exact h1,by omega,h3⟩
theorem Qp{kvs:List (Key×V)}{k:Key}{v:V}(h:(kvs.map (·.1)).Nodup):((putK kvs k v).map (·.1)).Nodup:=by
 cases e:dc kvs k with
 |none=>exact Pe v h e
 |some u=>
  unfold putK;rw[aB (by rw[iS,e];rfl),cX];have:((fun x:Key×V=>x.1) ∘ fun kv:Key×V=>if kv.1=k then(kv.1,v)else kv)=fun x=>x.1:=by
   funext x;show(if x.1=k then(x.1,v)else x).1=x.1;split<;>rfl
  rw[this];exact h
theorem rP.put{kvs:List (Key×V)}{n:Nat}{v:V}(h:rP kvs):rP (putK kvs (kN n) v):=by
 refine⟨Qp h.1,fun kv hkv=>?_⟩;unfold putK at hkv;split at hkv
 ·obtain⟨x,hx,e⟩:=List.mem_map.mp hkv;split at e
  ·rw[<- e];exact h.2 x hx
  ·rw[<- e];exact h.2 x hx
 ·rcases List.mem_append.mp hkv with hkv|hkv
  ·exact h.2 kv hkv
  ·rw[List.mem_singleton.mp hkv];exact⟨n,rfl⟩
theorem rP.drop{kvs:List (Key×V)}{k:Key}(h:rP kvs):rP (iM kvs k):=
 ⟨zw h.1,fun kv hkv=>h.2 kv (List.mem_filter.mp hkv).1⟩
theorem sM{kvs:List (Key×V)}{k j:Key} :dc (iM kvs k) j=if j=k then none else dc kvs j:=by
 unfold iM;induction kvs with
 |nil=>by_cases h:j=k<;>simp[h,Ma]
 |cons p r ih=>
  rw[cD];by_cases h1:p.1=k
  ·rw[ao (by simpa using h1),ih];by_cases h:j=k
   ·rw[aB h,aB h]
   ·rw[ao h,ao h,fh (fun z=>h (z.symm.trans h1))]
  ·rw[aB (by simpa using h1)];by_cases h2:p.1=j
   ·rw[fE h2,ao (fun z=>h1 (h2.trans z)),fE h2]
   ·rw[fh h2,ih,fh h2]
theorem Ax{H0:Hp} :∀{kvs:List (Key×V)} {fs:List (Nat×List Nat)},Paired (mT H0) kvs fs->∀c,Qo H0 (dc kvs (kN c)) (iy fs c)
 |_,_,.nil,c=>rfl
 |_,_,.cons (a:=kv) (b:=cv) q t,c=>by
  obtain⟨e,b,e1,e2⟩:=q;rw[gF];by_cases h:cv.1=c
  ·rw[aB h,fE (e.trans (by rw[h]))];exact⟨b,by rw[e1],e2⟩
  ·rw[ao h,fh (fun z=>h (mW (e.symm.trans z)))];exact Ax t c
theorem F4{H0:Hp}{kvs:List (Key×V)}{fs:List (Nat×List Nat)}(h:Paired (mT H0) kvs fs)(ok:K1 fs):rP kvs:=by
 have e:kvs.map (·.1)=fs.map fun x=>kN x.1:=by
  induction h with
  |nil=>rfl
  |cons q _ ih=>rw[aV,aV,ih ⟨(List.pairwise_cons.mp ok.tF).2,fun x hx=>ok.code x (aG _ hx),fun x hx=>ok.val x (aG _ hx)⟩,q.1]
 refine⟨?_,fun kv hkv=>?_⟩
 ·rw[e,List.Nodup,cY];exact ok.tF.imp fun h z=>by have:=mW z;omega
 ·have:kv.1∈kvs.map (·.1):=bV hkv;rw[e]at this;obtain⟨x,_,ex⟩:=List.mem_map.mp this;exact⟨x.1,ex.symm⟩
section
variable{P:Program}{w:World}{K:PySem.W.Frag}{mg:Str->Option Value}{base:Heap}{A:Ad}{CX:nZ}
def Ug(A:Ad):Sp:=fun vs H Q _=>∃H0 f a s R m,vs=[.ref f,.ref a]/\bF H0 H/\gK A H0 a s/\HQ s/\gU H0 H f R m/\m<=5000/\∀H',bF H0 H'->gU H0 H' f (done R s) (m+1)->Q .dY H'
theorem DV.keep{H0 H H':Hp}{f:Addr}{m m':Nat}{o:Option V} :∀{r:Option (List (Nat×List Nat))},DV H0 H f m o r->m<=m'->(∀d,o=some (.ref d)->H' d=H d)->DV H0 H' f m' o r
 |none,h,_,_=>h
 |some fs,⟨d,e,n,h⟩,hm,k=>⟨d,e,n,h.mono hm (k d e)⟩
theorem Qq(T:gQ K mg A):Fn P w K mg base ig 1 "work" ["files","simple"] (Ug A):=T.Ti.fn fun f fd F=>by
 refine F.ok S8 (fun vs H Q E h=>?_) (fun cdv A' outer s H vs Q E hr h=>?_)
 ·obtain⟨H0,f,a,s,R,m,rfl,_⟩:=h;rfl
 ·refine aR fun Pz pz=>?_;obtain⟨H0,f,a,s,R,m,rfl,sm,hS,okM,hF,hm,k⟩:=h;refine pz ?_;refine⟨_,aD (b7 (bz gk (bY (pv 1) rfl) eK (bM _))
   (aD (sj (eL hr) (pv 0) (bY (pv 1) rfl) (oz Mz rfl T.bn.Wf PyProof.Rows.Boot.«dict» (ah (bY (pv 1) rfl) aA)) rfl))
   (aD (b7 (bz gk (bY (pv 1) rfl) eK (bM _))
    (aD (f9 (Mi (pv 0) (bY (pv 1) rfl) mq ⟨rfl,rfl,rfl,rfl⟩)))
    (aD (b7 (qx (C0 (eL hr) (bY (pv 1) rfl) (pv 0)))
     (aD (f9 (MA (gc (eL hr) (pv 0) (bY (pv 1) rfl) (fun _ _=>rfl)) (bY (pv 1) rfl) ⟨rfl,rfl,rfl,rfl⟩))) bC))))),?_⟩
  refine aR fun Pz pz=>?_;obtain⟨dx,d,ea,fk,ed,hp⟩:=hS;refine pz ?_;obtain⟨Uh,kvs,FK⟩:=hF;have ea':=sm _ _ ea;have ed':=sm _ _ ed;have hla:∀b o,H0 b=some o->b≠f:=fun b o e=>aS e Uh;refine⟨_,rfl,a,_,dx,_,_,rfl,ea',T.eE,T.w6,rfl,rfl,_,rfl,?_⟩;cases s with
  |new n l=>
   refine cW ?_;refine⟨_,rfl,a,_,dx,_,_,rfl,ea',T.eE,T.vL,rfl,d,fk,rfl,.inl ed',fun p U7=>?_⟩;have s1:=aO (o:=.dK fk) U7;have npf:p≠f:=fun z=>by rw[z,FK.at_]at U7;cases U7
   refine⟨_,rfl,_,rfl,a,_,dx,_,_,rfl,s1 _ _ ea',T.eE,T.rC,rfl,f,_,rfl,yi.k (k:=kN n) (s1 _ _ FK.at_) (by show _<2 ^ 24;have:=FK.few;omega),?_⟩;refine k _ (fun b o e=>?_) ⟨Uh,_,⟨aj,aP (fN _ _ _) (by have:=FK.few;omega),FK.keys.put,fun n'=>?_,fun n1 n2 d'=>?_⟩⟩
   ·rw[aI (hla b o e)];exact s1 _ _ (sm b o e)
   ·show DV _ _ _ _ _ (fileIn (putFile n l R) n');rw[uE,mC];by_cases hn:n'=n
    ·rw[aB hn,aB (by rw[hn])];refine⟨p,rfl,npf,sm.free U7,fk,by rw[aI npf,aj],?_,F4 hp okM.oh,Ax hp⟩;rw[bg hp];have:=K1.len okM.oh;have:(fieldsOf (Simple.new n l)).length<=90:=this;omega
    ·rw[ao hn,ao (fun z=>hn (mW z))];refine(FK.val n').keep (gY m) fun d' e=>?_;have q:=FK.val n';rw[e]at q;cases hq:fileIn R n' with
     |none=>rw[hq]at q;cases q
     |some fs=>
      rw[hq]at q;refine aR fun Pz pz=>?_;obtain⟨d2,e2,nf,_,kk,hk,_⟩:=q;refine pz ?_;cases e2;rw[aI nf,aI (fun z=>by rw[z,U7]at hk;cases hk)]
   ·rw[mC,mC];have noP:∀j,dc kvs (kN j)≠some (.ref p):=fun j z=>by
     have q:=FK.val j;rw[z]at q;cases hq:fileIn R j with
     |none=>rw[hq]at q;cases q
     |some fs=>
      rw[hq]at q;refine aR fun Pz pz=>?_;obtain⟨d2,e2,nf,_,kk,hk,_⟩:=q;refine pz ?_;cases e2;rw[U7]at hk;cases hk
    by_cases h1:n1=n
    ·rw[aB (by rw[h1])];by_cases h2:n2=n
     ·intro _ _;rw[h1,h2]
     ·rw[ao (fun z=>h2 (mW z))];intro e1 e2;cases e1;exact absurd e2 (noP n2)
    ·rw[ao (fun z=>h1 (mW z))];by_cases h2:n2=n
     ·rw[aB (by rw[h2])];intro e1 e2;cases e2;exact absurd e1 (noP n1)
     ·rw[ao (fun z=>h2 (mW z))];exact FK.inj n1 n2 d'
  |drop n=>
   refine cg ?_;refine⟨_,rfl,a,_,dx,_,_,rfl,ea',T.eE,T.w6,rfl,rfl,_,rfl,cW ?_⟩;refine⟨_,rfl,f,rfl,.inl ⟨_,.inl FK.at_⟩,_,rfl,a,_,dx,_,_,rfl,ea',T.eE,T.rC,rfl,kvs,kN n,FK.at_,rfl,fun v hv=>?_,fun hv=>?_⟩
   ·refine k _ (fun b o e=>by rw[aI (hla b o e)];exact sm b o e) ⟨Uh,_,⟨aj,aP (b9 _ _) (by have:=FK.few;omega),FK.keys.drop,fun n'=>?_,fun n1 n2 d'=>?_⟩⟩
    ·show DV _ _ _ _ _ (fileIn (R.filter fun x=>x.1 != n) n');rw[nM,sM];by_cases hn:n'=n
     ·rw[aB hn,aB (by rw[hn])];rfl
     ·rw[ao hn,ao (fun z=>hn (mW z))];refine(FK.val n').keep (gY m) fun d' e=>?_;have q:=FK.val n';rw[e]at q;cases hq:fileIn R n' with
      |none=>rw[hq]at q;cases q
      |some fs=>
       rw[hq]at q;obtain⟨d2,e2,nf,_⟩:=q;cases e2;exact aI nf
    ·rw[sM,sM];split
     ·intro z;cases z
     ·split
      ·intro _ z;cases z
      ·exact FK.inj n1 n2 d'
   ·refine k _ sm ⟨Uh,_,⟨FK.at_,by have:=FK.few;omega,FK.keys,fun n'=>?_,FK.inj⟩⟩;show DV _ _ _ _ _ (fileIn (R.filter fun x=>x.1 != n) n');rw[nM];by_cases hn:n'=n
    ·rw[aB hn,hn];exact hv
    ·rw[ao hn];exact(FK.val n').keep (gY m) fun d' _=>rfl
  |set n c v=>
   refine cg ?_;refine⟨_,rfl,a,_,dx,_,_,rfl,ea',T.eE,T.w6,rfl,rfl,_,rfl,cg ?_⟩;refine⟨_,rfl,a,_,dx,_,_,rfl,ea',T.eE,T.rC,rfl,_,rfl,f,_,rfl,fO.k (k:=kN n) FK.at_,_,rfl,?_⟩;have qn:=FK.val n;cases hq:fileIn R n with
   |none=>
    rw[hq]at qn;have qn:dc kvs (kN n)=none:=qn;rw[qn];refine cg (k _ sm ⟨Uh,_,⟨FK.at_,by have:=FK.few;omega,FK.keys,fun n'=>?_,FK.inj⟩⟩);have e0:done R (.set n c v)=R:=by
     show(match fileIn R n with
      |some f=>putFile n (putField c v f) R
      |none=>R)=R
     rw[hq]
    rw[e0];exact(FK.val n').keep (gY m) fun d' _=>rfl
   |some fs=>
    rw[hq]at qn;refine aR fun Pz pz=>?_;obtain⟨dd,e2,nf,Ui,kk,hk,hkl,hkn,hkv⟩:=qn;refine pz ?_;rw[e2];obtain⟨kv0,ZJ,rfl⟩:∃kv,mT H0 kv (c,v)/\fk=[kv]:=by
     have Wo:Paired (mT H0) fk [(c,v)]:=hp;cases Wo with
     |cons q t=>cases t;exact⟨_,q,rfl⟩
    obtain⟨ek,b,eb,hb⟩:=ZJ;obtain⟨k0,v0⟩:=kv0;have ek:k0=kN c:=ek;have eb:v0=.ref b:=eb;subst ek eb;refine cW ⟨_,rfl,_,rfl,a,_,dx,_,_,rfl,ea',T.eE,T.rC,rfl,f,_,rfl,by rw[<- e2];exact fO.k (k:=kN n) FK.at_,dd,rfl,.inl ⟨_,.inl hk⟩,_,rfl,a,_,dx,_,_,rfl,ea',T.eE,T.vL,rfl,d,kk,kN c,.ref b,rfl,hk,.inl ed',(fun z=>by rw[z,ed]at Ui;cases Ui),by show _<2 ^ 24;omega,?_⟩;have e0:done R (.set n c v)=putFile n (putField c v fs) R:=by
     show(match fileIn R n with
      |some f=>putFile n (putField c v f) R
      |none=>R)=_
     rw[hq]
    refine k _ (fun b' o e=>by rw[aI (aS e Ui)];exact sm b' o e) ⟨Uh,kvs,⟨by rw[aI (bP nf)];exact FK.at_,by have:=FK.few;omega,FK.keys,fun n'=>?_,FK.inj⟩⟩;rw[e0,uE];by_cases hn:n'=n
    ·rw[aB hn,hn,e2];refine⟨dd,rfl,nf,Ui,_,aj,aP (fN _ _ _) (by omega),hkn.put,fun c'=>?_⟩;rw[mC,Cm];by_cases hc:c'=c
     ·rw[aB hc,aB (by rw[hc])];exact⟨b,rfl,hb⟩
     ·rw[ao hc,ao (fun z=>hc (mW z))];exact hkv c'
    ·rw[ao hn];refine(FK.val n').keep (gY m) fun d' e=>aI fun z=>?_;rw[z]at e;exact hn (FK.inj n' n dd e e2)
def NU(A:Ad):Sp:=fun vs H Q _=>∃l S,∃n:Nat,vs=[.ref l,.int (n:Nat)]/\dF A H l S/\rM S/\∀H0 H' f,bF H H0->bF H0 H'->gU H0 H' f (register S n) 1000->Q (.ref f) H'
theorem gU.wide{H0 H:Hp}{f:Addr}{R:List (Nat×List (Nat×List Nat))}{m m':Nat}(h:gU H0 H f R m)(hm:m<=m'):gU H0 H f R m':=by
 obtain⟨h0,kvs,FK⟩:=h;exact⟨h0,kvs,FK.at_,aP FK.few hm,FK.keys,fun n=>(FK.val n).keep hm fun _ _=>rfl,FK.inj⟩
theorem Jt{S:List Issue}(ok:rM S){x:Pl×Simple}(h:x∈effective (placed S)):HQ x.2:=by
 rw[iI]at h;refine aR fun Pz pz=>?_;obtain⟨y,hy,e⟩:=List.mem_filterMap.mp h;refine pz ?_;have pl:∀z:Pl×Line,z∈placed S->∀s,kQ z.2=some s->HQ s:=fun z hz s hs=>by
  refine aR fun Pz pz=>?_;obtain⟨I,hI,hz⟩:=List.mem_flatMap.mp hz;refine pz ?_;refine aR fun Pz pz=>?_;obtain⟨u,hu,eu⟩:=List.mem_map.mp hz;refine pz ?_;refine(ok.all I hI).sim z.2 ?_ s hs;rw[<- eu];exact List.fst_mem_of_mem_zipIdx hu
 unfold qo at e;cases hl:y.2 with
 |fix _ _=>rw[hl]at e;cases e
 |void _=>rw[hl]at e;cases e
 |simple s=>
  rw[hl]at e;refine aR fun Pz pz=>?_;obtain⟨t,ht,e⟩:=Option.map_eq_some_iff.mp e;refine pz ?_;rw[<- e];unfold Vbptan.effect at ht;split at ht
  ·cases ht;exact pl y hy _ (by rw[hl];rfl)
  ·rename_i z1 z2 z3 hz;cases ht;have:=(nJ hz).1;exact pl _ ((eS _).subset this) _ rfl
  ·cases ht
theorem Cp(T:gQ K mg A):Fn P w K mg base ig 4 "files_behind" ["issues","number"] (NU A):=T.Ae.fn fun f fd F=>by
 refine F.ok jF (fun vs H Q E h=>?_) (fun cdv A' outer s H vs Q E hr h=>?_)
 ·obtain⟨l,S,n,rfl,_⟩:=h;rfl
 ·refine aR fun Pz pz=>?_;obtain⟨l,S,n,rfl,hI,ok,k⟩:=h;refine pz ?_;refine⟨_,ay (bH (i:=2) jF.nd rfl (Or.inl rfl) qK)
   (ay (i9 cH rfl (fG (bI (DS T) hr bx (ah (pv 0) aA))) (nY rfl (dN (b8 (i:=3) jF.nd rfl (Or.inl rfl)) (dN (b8 (i:=4) jF.nd rfl (Or.inl rfl)) kC)))
    (aD (b7 (bz ny (fJ iQ (pv 3) aY (fun _ _=>rfl)) (pv 1) (bM _)) (aD (f9 (bI (Qq T) hr bx (ah (pv 2) (ah (pv 4) aA))))) bC)))
   (aD (aW (pv 2)))),?_⟩
  intro f0 hf;have s1:=aO (o:=.dK []) hf;refine⟨_,rfl,H,l,S,rfl,s1,hI,iJ S ok.tF,ok.len,fun H2 e he s2 hE=>?_⟩;refine aR fun Pz pz=>?_;obtain⟨ts,ht,hX⟩:=hE;refine pz ?_;have hf2:H2 f0=some (.dK []):=s2 _ _ aj;have sU:bF (wA H2 f0) H2:=fun b o q=>by
   by_cases z:b=f0
   ·rw[z,kJ]at q;cases q
   ·rw[ja z]at q;exact q
  have sH:bF H (wA H2 f0):=fun b o q=>by
   rw[ja (aS q hf)];exact s2 _ _ (s1 _ _ q)
  have nef:e≠f0:=fun z=>by rw[z,aj]at he;cases he
  have htU:wA H2 f0 e=some (.lst (ts.map V.ref)):=by rw[ja nef];exact ht
  have hXU:Paired (HP A (wA H2 f0) (wA H2 f0)) ts (effective (placed S)):=bX (fun t x ⟨q,a,z1,z2,z3⟩=>⟨q,a,by rw[ja (ic z1 hf2 (by intro z;cases z))];exact z1,by rw[ja (ic z2 hf2 (by intro z;cases z))];exact z2,z3.same sH⟩) hX;have hlen:ts.length=(effective (placed S)).length:=bg hX;have hfew:(effective (placed S)).length<=1000:=aP (by rw[iI];exact Ba _ _) ok.len;refine⟨e,rfl,⟨_,cI.of ht⟩,mz (K:=K) (a:=e) (xs:=ts.map V.ref) (fun i σ H'=>(∃(v3 v4:Option V),σ=[some (.ref l),some (.int (n:Nat)),some (.ref f0),v3,v4])/\bF (wA H2 f0) H'/\gU (wA H2 f0) H' f0 ((((effective (placed S)).take i).filter fun x=>decide (x.1.1<=n)).foldl (fun r x=>done r x.2) []) i)
   ⟨⟨none,none,rfl⟩,sU,kJ,[],hf2,aq _,⟨List.Pairwise.nil,fun _ z=>by cases z⟩,fun n'=>rfl,fun n1 n2 d z=>by cases z⟩ (fun i σ H' _ ⟨_,z,_⟩=>cI.of (z _ _ htU)) ?_ ?_⟩
  ·intro i x σ H' hi hz;refine aR fun Pz pz=>?_;obtain⟨⟨v3,v4,rfl⟩,sm,hF⟩:=hz;refine pz ?_;obtain⟨t,Ud,rfl⟩:=rO hi;refine aR fun Pz pz=>?_;obtain⟨y,hy,q,a,z1,z2,z3⟩:=dm hXU Ud;refine pz ?_;have hil:i<ts.length:=(List.getElem?_eq_some_iff.mp Ud).1;have step:((effective (placed S)).take (i+1)).filter (fun x=>decide (x.1.1<=n))=((effective (placed S)).take i).filter (fun x=>decide (x.1.1<=n))++if decide (y.1.1<=n)=true then [y]else []:=by
    rw[dO hy,fH,cD,g7]
   refine⟨t,_,rfl,lD.of (sm _ _ z1),rfl,_,_,rfl,_,_,rfl,rfl,?_⟩;refine⟨_,rfl,q,_,_,_,rfl,rfl,lD.of (sm _ _ z2),cB (j:=0) rfl,_,rfl,_,_,rfl,rfl,_,rfl,?_⟩;refine gm (fun c1=>?_) (fun c1=>?_)
   ·have Ue:=aH c1;refine⟨_,rfl,_,rfl,wA H2 f0,f0,a,y.2,_,i,rfl,sm,z3,Jt ok (bW hy),hF,by omega,fun H3 s3 hF3=>⟨⟨_,_,rfl⟩,s3,?_⟩⟩;rw[step,aB (aC (by omega)),List.foldl_append];exact hF3
   ·have Ue:¬((y.1.1:Int)<=(n:Int)):=fun z=>c1 (aC z);refine⟨⟨_,_,rfl⟩,sm,?_⟩;rw[step,ao (fun z=>Ue (by have:=aH z;omega)),bq];exact hF.wide (gY i)
  ·intro σ H' hz;refine aR fun Pz pz=>?_;obtain⟨⟨v3,v4,rfl⟩,sm,hF⟩:=hz;refine pz ?_;rw[ai,hlen,bL]at hF;exact⟨_,rfl,k _ H' f0 sH sm (hF.wide hfew)⟩
theorem ko{S:List Issue}(ok:rM S)(n:Nat):DU (register S n):=by
 unfold Vbptan.register;have go:∀(xs:List (Pl×Simple)) (R:List (Nat×List (Nat×List Nat))),DU R->(∀x∈xs,HQ x.2)->DU (xs.foldl (fun r x=>done r x.2) R):=by
  intro xs;induction xs with
  |nil=>intro R h _;exact h
  |cons x xs ih=>intro R h hx;exact ih _ (h.done (hx x aL)) fun y hy=>hx y (aG _ hy)
 exact go _ [] ⟨List.Pairwise.nil,(fun _ z=>by cases z),(fun _ z=>by cases z)⟩ fun x hx=>Jt ok (List.mem_filter.mp hx).1
end
open Vbptan (Simple Line Issue placed effective fileOf Fields Register putField putFile fileIn done register upTo fieldsTold)
theorem xo{kvs:List (Key×V)}(h:rP kvs):∃ns:List Nat,kvs.map (·.1)=ns.map kN/\ns.Nodup:=by
 have go:∀kvs:List (Key×V),(∀kv∈kvs,∃n:Nat,kv.1=Sum.inl (n:Int))->∃ns:List Nat,kvs.map (·.1)=ns.map kN:=by
  intro kvs;induction kvs with
  |nil=>intro _;exact⟨[],rfl⟩
  |cons x l ih=>
   intro h;obtain⟨ns,e⟩:=ih fun kv hkv=>h kv (aG _ hkv);obtain⟨n,en⟩:=h x aL;exact⟨n::ns,by rw[aV,aV,e,en]⟩
 obtain⟨ns,e⟩:=go kvs h.2;refine⟨ns,e,?_⟩;have nd:=h.1;rw[e,List.Nodup,cY]at nd;exact nd.imp fun h z=>h (by rw[z])
theorem Ju{kvs:List (Key×V)}{ns:List Nat}(e:kvs.map (·.1)=ns.map kN)(n:Nat):(dc kvs (kN n)).isSome=true↔n∈ns:=by
 constructor
 ·intro h;obtain⟨v,hv⟩:=Option.isSome_iff_exists.mp h;have:=C1 hv;rw[e]at this;obtain⟨m,hm,em⟩:=List.mem_map.mp this;rw[<- mW em];exact hm
 ·intro h;cases hv:dc kvs (kN n)with
  |some v=>rfl
  |none=>exact absurd (by rw[e];exact bV h) (EL hv)
theorem CH{kvs:List (Key×V)}{ns L:List Nat}(e:kvs.map (·.1)=ns.map kN)(nd:ns.Nodup)(hL:L.Pairwise (· < ·))(hm:∀n,(dc kvs (kN n)).isSome=true↔n∈L):ns.Perm L:=
 (dP nd (hL.imp fun h=>aT h)).mpr fun n=>((Ju e n).symm.trans (hm n))
abbrev qt(L:List Nat):List Int:=L.map fun n:Nat=>(n:Int)
theorem oU{ns L:List Nat}{ns':List Int}(hp:ns.Perm L)(hL:L.Pairwise (· < ·))(h1:ns'.Perm (qt ns))(h2:ns'.Pairwise (· <= ·)):ns'=qt L:=by
 refine List.Perm.eq_of_pairwise (le:=fun a b:Int=>a<=b) (fun a b _ _ x y=>Int.le_antisymm x y) h2 ?_ (h1.trans (hp.map _));rw[cY];exact hL.imp fun h=>by omega
theorem sN(ns:List Nat):ns.map kN=(qt ns).map (Sum.inl:Int->Key):=by rw[cX];rfl
theorem ua(L:List Nat):(qt L).map V.int=zs L:=by rw[cX];rfl
theorem x9{R:List (Nat×List (Nat×List Nat))}(n:Nat):(fileIn R n).isSome=true↔n∈R.map (·.1):=by
 unfold Vbptan.fileIn;rw[qi,List.find?_isSome];constructor
 ·rintro ⟨x,hx,e⟩;exact List.mem_map.mpr ⟨x,hx,jo e⟩
 ·intro h;obtain⟨x,hx,e⟩:=List.mem_map.mp h;exact⟨x,hx,beq_iff_eq.mpr e⟩
theorem Ay{R:List (Nat×List Nat)}(n:Nat):(iy R n).isSome=true↔n∈R.map (·.1):=by
 unfold iy;rw[qi,List.find?_isSome];constructor
 ·rintro ⟨x,hx,e⟩;exact List.mem_map.mpr ⟨x,hx,jo e⟩
 ·intro h;obtain⟨x,hx,e⟩:=List.mem_map.mp h;exact⟨x,hx,beq_iff_eq.mpr e⟩
theorem DV.some{H0 H:Hp}{f:Addr}{m:Nat}{o:Option V} :∀{r:Option (List (Nat×List Nat))},DV H0 H f m o r->o.isSome=r.isSome
 |none,h=>by have h:o=none:=h;rw[h];rfl
 | .some fs,⟨d,e,_⟩=>by rw[e];rfl
theorem Qo.some{H0:Hp}{o:Option V} :∀{r:Option (List Nat)},Qo H0 o r->o.isSome=r.isSome
 |none,h=>by have h:o=none:=h;rw[h];rfl
 | .some fs,⟨d,e,_⟩=>by rw[e];rfl
theorem sO{α:Type}{R:List (Nat×α)}(h:R.Pairwise fun a b=>a.1<b.1):(R.map (·.1)).Pairwise (· < ·):=by rw[cY];exact h
theorem gU.same{H0 H H':Hp}{f:Addr}{R:List (Nat×List (Nat×List Nat))}{m:Nat}(h:gU H0 H f R m)(s:bF H H'):gU H0 H' f R m:=by
 obtain⟨h0,kvs,FK⟩:=h;refine⟨h0,kvs,s _ _ FK.at_,FK.few,FK.keys,fun n=>?_,FK.inj⟩;have q:=FK.val n;cases hq:fileIn R n with
 |none=>rw[hq]at q;exact q
 |some fs=>
  rw[hq]at q;refine aR fun Pz pz=>?_;obtain⟨d,e,nf,h1,kk,h2,h3⟩:=q;refine pz ?_;exact⟨d,e,nf,h1,kk,s _ _ h2,h3⟩
abbrev fl(x:Nat×List Nat):List Int:=(x.1:Int)::(x.2.length:Int)::Vbptan.ints x.2
theorem NV{fs:List (Nat×List Nat)}(h:∀x∈fs,x.2.length<=12):(fs.flatMap fl).length<=14*fs.length:=by
 induction fs with
 |nil=>exact aq _
 |cons x l ih=>
  rw[cO,au];have h1:=h x aL;have h2:=ih fun y hy=>h y (aG _ hy);have h3:(fl x).length=x.2.length+2:=by show((_::_::Vbptan.ints x.2:List Int)).length=_;rw[az,az];unfold Vbptan.ints;rw[ai]
  rw[h3];show _<=14*(l.length+1);omega
section
variable{P:Program}{w:World}{K:PySem.W.Frag}{mg:Str->Option Value}{base:Heap}{A:Ad}{CX:nZ}
theorem xq{X:Cx}{o e:Expr}{to te:TE}{apos pos pos':Pos}(ho:PE X o to)(he:PE X e te)(hst:starEach [e] X.env=(false,eval e X.env)::starEach [] X.env:=by rfl)
  (hb:attributeBase o "extend" X.env (eval o X.env)=eval o X.env:=by rfl) (hfew:((((backTo pos (starEach [e] X.env)).all fun x=> !x.1)&&(backToKw pos (keywordEach [] X.env)).all fun x=>x.1.isSome)&&decide (([e].length+([]:List Keyword).length+if([]:List Keyword).isEmpty=true then 0 else 1)<30))=true:=by rfl)
  (hline:(apos.endLine==pos.line)=true:=by rfl) (hs:swapsWith (.Call (.Attribute o "extend" apos) [e] [] pos) none pos'.line X.env=pure false:=by rfl):
  PS X (.Expr (.Call (.Attribute o "extend" apos) [e] [] pos) pos') (yS (Sa X.K "list" yy to (cE te fW))):=
 f9 (Q7 PySem.F.plainAttrs_list PySem.F.slot_list_extend PySem.F.type_list_extend J2 ho (ah he aA hst) (hbase:=hb) (hfew:=hfew) (hline:=hline) (hs:=hst)) hs
def Az:Sp:=fun vs H Q _=>∃H0 f R,∃n:Nat,vs=[.ref f,.int (n:Nat)]/\bF H0 H/\gU H0 H f R 1000/\DU R/\tE ((fieldsTold (fileIn R n)).map V.int) H Q
theorem sP(T:gQ K mg A):Fn P w K mg base ig 1 "record_of" ["files","file"] Az:=T.Fz.fn fun f fd F=>by
 refine F.ok nH (fun vs H Q E h=>?_) (fun cdv A' outer s H vs Q E hr h=>?_)
 ·obtain⟨H0,f,R,n,rfl,_⟩:=h;rfl
 ·obtain⟨H0,f,R,n,rfl,sm,hF,K2,k⟩:=h;refine⟨_,ay (b7 (qx (oF (eL hr) (pv 1) (pv 0))) (aD (aW (b6 (ah aY aA)))) bC)
   (ay (bH (i:=2) nH.nd rfl (Or.inl rfl) (gc (eL hr) (pv 0) (pv 1) (fun _ _=>rfl)))
   (ay (bH (i:=3) nH.nd rfl (Or.inl rfl) (b6 (ah aY (ah (eU wO rfl T.bn.len uc (ah (pv 2) aA)) aA))))
   (ay (i9 cH rfl (fG (eU (pC rfl) rfl T.bn.vq PyProof.Rows.Boot.«sorted» (ah (pv 2) aA))) (b8 (i:=4) nH.nd rfl (Or.inl rfl))
    (ay (qU (pv 3) (pv 4)) (ay (qU (pv 3) (fX T.bn (gc (eL hr) (pv 2) (pv 4) (fun _ _=>rfl)))) (aD (xq (pv 3) (gc (eL hr) (pv 2) (pv 4) (fun _ _=>rfl)))))))
   (aD (aW (pv 3)))))),?_⟩
  refine aR fun Pz pz=>?_;obtain⟨Uh,kvs,FK⟩:=hF;refine pz ?_;refine⟨_,rfl,_,rfl,f,_,rfl,fO.k (k:=kN n) FK.at_,_,rfl,?_⟩;have q:=FK.val n;cases hq:fileIn R n with
  |none=>
   rw[hq]at q k;have q:dc kvs (kN n)=none:=q;rw[q];exact cW ⟨by show 1<=sizeLine;decide,fun p hp=>k _ p hp (aO hp) aj⟩
  |some fs=>
   rw[hq]at q k;refine aR fun Pz pz=>?_;obtain⟨d,ed,nf,Ui,kk,hk,hkl,hkn,hkv⟩:=q;refine pz ?_;rw[ed];have HR:K1 fs:=K2.oh _ (gG hq);refine aR fun Pz pz=>?_;obtain⟨ns,en,nd⟩:=xo hkn;refine pz ?_;have perm:=CH (L:=fs.map (·.1)) en nd (sO HR.tF) fun c=>by rw[(hkv c).some];exact Ay c
   have hlen:kk.length=fs.length:=by
    have e1:(kk.map (·.1)).length=(ns.map kN).length:=by rw[en]
    rw[ai,ai]at e1;rw[e1,perm.length_eq,ai]
   refine cg ⟨_,rfl,_,rfl,f,_,rfl,by rw[<- ed];exact fO.k (k:=kN n) FK.at_,?_⟩;refine⟨_,rfl,d,_,rfl,hk,by show 2<=sizeLine;decide,fun r hr'=>?_⟩;have s1:=aO (o:=.lst [.int 1,.int kk.length]) hr';refine⟨_,rfl,d,kk,qt ns,rfl,.inl (s1 _ _ hk),by rw[en,sN],fun ns' p hp1 hp2 hp=>?_⟩;have e2:=oU perm (sO HR.tF) hp1 hp2;rw[e2,ua];have s2:=aO (o:=.lst (zs (fs.map (·.1)))) hp;have npr:p≠r:=fun z=>by rw[z,aj]at hp;cases hp
   refine⟨p,rfl,⟨_,cI.of aj⟩,mz (K:=K) (a:=p) (xs:=zs (fs.map (·.1))) (fun i σ H'=>(∃v4:Option V,σ=[some (.ref f),some (.int (n:Nat)),some (.ref d),some (.ref r),v4])/\bF H H'/\H' p=some (.lst (zs (fs.map (·.1))))/\H' r=some (.lst (((1:Int)::(fs.length:Int)::(fs.take i).flatMap fl).map V.int)))
    ⟨⟨none,rfl⟩,s1.trans s2,aj,?_⟩ (fun i σ H' _ ⟨_,_,z,_⟩=>cI.of z) ?_ ?_⟩
   ·rw[s2 _ _ aj,hlen];rfl
   ·rintro i x σ H' hi ⟨⟨v4,rfl⟩,Hv,h3,h4⟩;obtain⟨c,hc,rfl⟩:=xE hi;rw[bf]at hc;obtain⟨y,hy,rfl⟩:=Option.map_eq_some_iff.mp hc;have hil:i<fs.length:=(List.getElem?_eq_some_iff.mp hy).1;have hmem:y∈fs:=bW hy;have l12:=HR.val y hmem;have hin:iy fs y.1=some y.2:=by
     have go:∀(l:List (Nat×List Nat)),l.Pairwise (fun a b=>a.1<b.1)->y∈l->iy l y.1=some y.2:=by
      intro l;induction l with
      |nil=>intro _ z;cases z
      |cons x l ih=>
       intro hp z;rw[dg]at hp;rw[gF];rcases List.mem_cons.mp z with rfl|z
       ·rw[aB rfl]
       ·rw[ao (fun e=>by have:=hp.1 y z;omega)];exact ih hp.2 z
     exact go fs HR.tF hmem
    have hv:=hkv y.1;rw[hin]at hv;refine aR fun Pz pz=>?_;obtain⟨b,hb1,hb2⟩:=hv;refine pz ?_;have ZK:=sm _ _ hb2;have nbr:b≠r:=aS ZK hr';have ndr:d≠r:=aS hk hr';have bound:((fs.take i).flatMap fl).length<=14*i:=aP (NV fun x hx=>HR.val x (List.mem_of_mem_take hx)) (by rw[b4];omega);have f90:=HR.len;refine⟨_,rfl,.inl ⟨rfl,_,cI.of h4⟩,_,rfl,r,_,_,rfl,rfl,h4,by rw[ai];show _+2<2 ^ 24;omega,?_⟩;have s4:∀{o:HO} {b':Addr} {ob:HO},H b'=some ob->upd H' r o b'=some ob:=fun{o b' ob} e=>by rw[aI (aS e hr')];exact Hv _ _ e
    refine⟨_,rfl,.inl ⟨rfl,_,cI.of aj⟩,_,rfl,_,rfl,d,_,rfl,by rw[<- hb1];exact fO.k (k:=kN y.1) (s4 hk),b,_,rfl,.inl (cI.of (s4 ZK)),r,_,_,rfl,rfl,aj,by rw[au,ai];show _+2+1<2 ^ 24;omega,?_⟩;rw[iX];refine⟨_,rfl,.inl ⟨rfl,_,cI.of aj⟩,_,rfl,_,rfl,d,_,rfl,by rw[<- hb1];exact fO.k (k:=kN y.1) (s4 hk),r,b,_,_,rfl,rfl,aj,s4 ZK,?_,?_⟩
    ·rw[au,au,ai,cF];show _+2+1+1+_<=2 ^ 24;omega
    ·rw[iX];refine⟨⟨_,rfl⟩,fun b' ob e=>s4 e,by rw[aI npr];exact h3,?_⟩;rw[aj,dO hy,fz,cF]
     congr 2
     show(_++[V.int (y.1:Int)])++[V.int (y.2.length:Int)]++zs y.2=List.map V.int (1::(fs.length:Int)::(_++List.flatMap fl [y]));rw[cO,sS,bq,aV,aV,aV,aV,aX,bw,bw];show _::_::(_++_)=_::_::(_++_)
     congr 3
     show _::_::zs y.2=_::_::(Vbptan.ints y.2).map V.int;unfold Vbptan.ints;rw[cX];rfl
   ·rintro σ H' ⟨⟨v4,rfl⟩,Hv,h3,h4⟩;refine⟨_,rfl,k H' r hr' Hv ?_⟩;rw[h4,cF,ai,bL];rfl
end
theorem NW{a b:List Nat}(h:Vbptan.ints a=Vbptan.ints b):a=b:=AZ.mp h
theorem NX:∀{a b:List (Nat×List Nat)},a.flatMap fl=b.flatMap fl->a=b
 |[],[],_=>rfl
 |[],y::b,h=>by rw[cO]at h;cases h
 |x::a,[],h=>by rw[cO]at h;cases h
 |x::a,y::b,h=>by
  rw[cO,cO]at h;have h:(x.1:Int)::(x.2.length:Int)::(Vbptan.ints x.2++a.flatMap fl)=(y.1:Int)::(y.2.length:Int)::(Vbptan.ints y.2++b.flatMap fl):=h;injection h with h1 h
  injection h with h2 h;have l:(Vbptan.ints x.2).length=(Vbptan.ints y.2).length:=by unfold Vbptan.ints;rw[ai,ai];omega
  obtain⟨h3,h4⟩:=List.append_inj h l;rw[NX h4,Prod.ext (Int.ofNat_inj.mp h1) (NW h3)]
theorem NY{a b:Option (List (Nat×List Nat))}(h:fieldsTold a=fieldsTold b):a=b:=by
 cases a with
 |none=>
  cases b with
  |none=>rfl
  |some l=>injection h with h;cases h
 |some l=>
  cases b with
  |none=>injection h with h;cases h
  |some l'=>
   have h:(1:Int)::(l.length:Int)::l.flatMap fl=1::(l'.length:Int)::l'.flatMap fl:=h;injection h with _ h
   injection h with _ h;rw[NX h]
def oV(a b:List (Nat×List (Nat×List Nat))):List Nat:=((List.range Vbptan.FILES).map fun i=>i+1).filter fun f=>fileIn a f != fileIn b f
theorem K3(a b:List (Nat×List (Nat×List Nat))):(oV a b).Pairwise (· < ·):=by
 unfold oV;refine Ea fj ?_;rw[cY];exact List.pairwise_lt_range.imp fun h=>by omega
theorem K4{a b:List (Nat×List (Nat×List Nat))}{n:Nat} :n∈oV a b↔(1<=n/\n<=999)/\fileIn a n≠fileIn b n:=by
 unfold oV;rw[List.mem_filter,List.mem_map];constructor
 ·rintro ⟨⟨i,hi,rfl⟩,h⟩;have:=List.mem_range.mp hi;exact⟨⟨by omega,by have:i<999:=this;omega⟩,by simpa using h⟩
 ·rintro ⟨⟨h1,h2⟩,h⟩;exact⟨⟨n-1,List.mem_range.mpr (by show n-1<999;omega),by omega⟩,by simpa using h⟩
theorem Uj{a b:List Nat}(ha:a.Pairwise (· < ·))(hb:b.Pairwise (· < ·))(h:∀n,n∈a↔n∈b):a=b:=by
 have p:=(dP (ha.imp fun h=>aT h) (hb.imp fun h=>aT h)).mpr h;exact List.Perm.eq_of_pairwise (le:=fun x y:Nat=>x<y) (fun x y _ _ u v=>absurd (nU u v) (cV _)) ha hb p
def either(a b:List (Nat×List (Nat×List Nat))):List Nat:=((List.range Vbptan.FILES).map fun i=>i+1).filter fun f=>(fileIn a f).isSome||(fileIn b f).isSome
theorem uF(a b:List (Nat×List (Nat×List Nat))):(either a b).Pairwise (· < ·):=by
 unfold either;refine Ea fj ?_;rw[cY];exact List.pairwise_lt_range.imp fun h=>by omega
theorem pR{a b:List (Nat×List (Nat×List Nat))}(ha:DU a)(hb:DU b){n:Nat} :n∈either a b↔(fileIn a n).isSome=true\/(fileIn b n).isSome=true:=by
 unfold either;rw[List.mem_filter,List.mem_map,A8];constructor
 ·exact fun h=>h.2
 ·intro h;have hr:1<=n/\n<=999:=by
   rcases h with h|h
   ·obtain⟨f,hf⟩:=Option.isSome_iff_exists.mp h;exact ha.file _ (gG hf)
   ·obtain⟨f,hf⟩:=Option.isSome_iff_exists.mp h;exact hb.file _ (gG hf)
  exact⟨⟨n-1,List.mem_range.mpr (by show n-1<999;omega),by omega⟩,h⟩
theorem NZ{a b:List (Nat×List (Nat×List Nat))}(ha:DU a)(hb:DU b):oV a b=(either a b).filter fun f=>fileIn a f != fileIn b f:=by
 refine Uj (K3 a b) ((uF a b).sublist fj) fun n=>?_;rw[List.mem_filter,K4,pR ha hb];constructor
 ·rintro ⟨_,h⟩;refine⟨?_,by simpa using h⟩;cases e1:fileIn a n with
  |some _=>exact .inl rfl
  |none=>
   cases e2:fileIn b n with
   |some _=>exact .inr rfl
   |none=>rw[e1,e2]at h;exact absurd rfl h
 ·rintro ⟨h1,h2⟩;refine⟨?_,by simpa using h2⟩;rcases h1 with h|h
  ·obtain⟨f,hf⟩:=Option.isSome_iff_exists.mp h;exact ha.file _ (gG hf)
  ·obtain⟨f,hf⟩:=Option.isSome_iff_exists.mp h;exact hb.file _ (gG hf)
theorem HS(a b:List (Nat×List (Nat×List Nat))):(either a b).length<=999:=by
 unfold either;exact aP (b9 _ _) (by rw[ai,fU];exact aq _)
section
variable{P:Program}{w:World}{K:PySem.W.Frag}{mg:Str->Option Value}{base:Heap}{A:Ad}{CX:nZ}
theorem pS{H0 H:Hp}{f:Addr}{R:List (Nat×List (Nat×List Nat))}{m:Nat}{kvs:List (Key×V)}(FK:NT H0 H f R m kvs):∃ns:List Nat,kvs.map (·.1)=ns.map kN/\ns.Nodup/\ns.length<=m/\∀n,n∈ns↔(fileIn R n).isSome=true:=by
 refine aR fun Pz pz=>?_;obtain⟨ns,e,nd⟩:=xo FK.keys;refine pz ?_;refine⟨ns,e,nd,?_,fun n=>by rw[<- (FK.val n).some];exact(Ju e n).symm⟩;have:(kvs.map (·.1)).length=(ns.map kN).length:=by rw[e]
 rw[ai,ai]at this;have:=FK.few;omega
theorem HU{ns:List Nat}(h:ns.Nodup):(qt ns).Nodup:=by
 rw[List.Nodup,cY];exact h.imp fun h z=>h (Int.ofNat_inj.mp z)
theorem DW{ns:List Nat}{i:Int} :i∈qt ns↔∃n∈ns,(n:Int)=i:=List.mem_map
def N8:Sp:=fun vs H Q _=>∃H1 H2 f g R R',vs=[.ref f,.ref g]/\bF H1 H/\gU H1 H f R 1000/\DU R/\bF H2 H/\gU H2 H g R' 1000/\DU R'/\tE (zs (oV R R')) H Q
theorem K5(T:gQ K mg A):Fn P w K mg base ig 2 "files_that_differ" ["here","there"] N8:=T.sZ.fn fun f fd F=>by
 refine F.ok gh (fun vs H Q E h=>?_) (fun cdv A' outer s H vs Q E hr h=>?_)
 ·obtain⟨H1,H2,f,g,R,R',rfl,_⟩:=h;rfl
 ·obtain⟨H1,H2,f,g,R,R',rfl,XJ,hF1,WN,wY,hF2,WO,k⟩:=h;refine⟨_,ay (bH (i:=2) gh.nd rfl (Or.inl rfl) (eU (Ho rfl) rfl T.bn.vq PyProof.Rows.Boot.«sorted» (ah (eB SR (oz IS rfl T.Wj PyProof.Rows.Boot.«set» (ah (pv 0) aA)) (oz IS rfl T.Wj PyProof.Rows.Boot.«set» (ah (pv 1) aA))) aA)))
   (aD (aW (oB (own:=[("file",3)]) (tt:=p6 (En (Wm K) (lF Az [] E0 (cE (cT 0) (cE (cT 3) fW))) (lF Az [] E0 (cE (cT 1) (cE (cT 3) fW))))) rfl gh.nd (fG (pv 2)) (fM (by kernel_rfl)) (fun _ _ _ _ _=>b8 (i:=3) gh.nd rfl (Or.inl rfl))
    (fun _ _ _ _ _=>by exact u9 (bz (To hr.units) (bI (sP T) hr bx (ah (pv 0) (ah (pv 3) aA))) (bI (sP T) hr bx (ah (pv 1) (ah (pv 3) aA))) (bM _))) (fun _ _ _ _ _=>pv 3)))),?_⟩
  refine aR fun Pz pz=>?_;obtain⟨_,N9,FK1⟩:=id hF1;refine pz ?_;refine aR fun Pz pz=>?_;obtain⟨_,ZL,FK2⟩:=id hF2;refine pz ?_;refine aR fun Pz pz=>?_;obtain⟨ns,en,nd,nl,hn⟩:=pS FK1;refine pz ?_;refine aR fun Pz pz=>?_;obtain⟨ms,em,md,ml,hm⟩:=pS FK2;refine pz ?_;refine⟨_,rfl,f,N9,qt ns,rfl,.inl FK1.at_,by rw[en,sN],by rw[ai];exact nl,fun p hp _=>?_⟩;have s1:=aO (o:=ym w p (qt ns)) hp;refine⟨_,rfl,g,ZL,qt ms,rfl,.inl (s1 _ _ FK2.at_),by rw[em,sN],by rw[ai];exact ml,fun q hq _=>?_⟩;have s2:=aO (o:=ym w q (qt ms)) hq;have npq:p≠q:=fun z=>by rw[<- z,aj]at hq;cases hq
  have mem:∀i:Int,i∈qt (either R R')↔i∈qt ns\/i∈qt ms:=fun i=>by
   rw[DW,DW,DW];constructor
   ·rintro ⟨n,h,e⟩;rcases (pR WN WO).mp h with h|h
    ·exact .inl ⟨n,(hn n).mpr h,e⟩
    ·exact .inr ⟨n,(hm n).mpr h,e⟩
   ·rintro (⟨n,h,e⟩|⟨n,h,e⟩)
    ·exact⟨n,(pR WN WO).mpr (.inl ((hn n).mp h)),e⟩
    ·exact⟨n,(pR WN WO).mpr (.inr ((hm n).mp h)),e⟩
  refine⟨p,q,qt ns,qt ms,qt (either R R'),rfl,rfl,s2 _ _ aj,aj,npq,by rw[ai,ai];omega,HU nd,HU md,HU ((uF R R').imp fun h=>aT h),mem,fun u hu=>?_⟩;have s3:=aO (o:=ym w u (qt (either R R'))) hu;refine⟨u,qt (either R R'),rfl,aj,fun ns' p2 hp1 hp2 hp3=>?_⟩;have e2:=oU (ns:=either R R') (L:=either R R') (List.Perm.refl _) (uF R R') hp1 hp2;rw[e2,ua];have s4:=aO (o:=.lst (zs (either R R'))) hp3;have sA:=s1.trans (s2.trans (s3.trans s4));refine⟨_,rfl,p2,rfl,⟨_,cI.of aj⟩,fun D hD=>?_⟩;have ec:=NZ WN WO;refine jA (K:=K) (a:=p2) (xs:=zs (either R R')) (fun i H'=>bF (upd (upd (upd (upd H p (ym w p (qt ns))) q (ym w q (qt ms))) u (ym w u (qt (either R R')))) p2 (.lst (zs (either R R')))) H'/\H' D=some (.lst (zs (((either R R').take i).filter fun f=>fileIn R f != fileIn R' f)))) ⟨aO hD,aj⟩ (fun i H' _ ⟨z,_⟩=>cI.of (z _ _ aj)) (fun i x H' hi ⟨z1,z2⟩=>?_) (fun H' ⟨z1,z2⟩=>?_)
  ·obtain⟨n,hi',rfl⟩:=xE hi;have zA:=sA.trans z1;refine⟨rfl,_,rfl,_,rfl,H1,f,R,n,rfl,XJ.trans zA,hF1.same zA,WN,fun H3 l1 hl1 s5 h5=>?_⟩;refine⟨_,rfl,_,rfl,H2,g,R',n,rfl,wY.trans (zA.trans s5),hF2.same (zA.trans s5),WO,fun H4 l2 hl2 s6 h6=>?_⟩;refine⟨.lst (fieldsTold (fileIn R n)),.lst (fieldsTold (fileIn R' n)),⟨l1,rfl,cI.of (s6 _ _ h5)⟩,⟨l2,rfl,cI.of h6⟩,_,rfl,?_⟩;have z3:=z1.trans (s5.trans s6);have z4:=s6 _ _ (s5 _ _ z2);have step:((either R R').take (i+1)).filter (fun f=>fileIn R f != fileIn R' f)=((either R R').take i).filter (fun f=>fileIn R f != fileIn R' f)++if(fileIn R n != fileIn R' n)=true then [n]else []:=by
    rw[dO hi',fH,cD,g7]
   by_cases hc:fileIn R n=fileIn R' n
   ·rw[aC (by rw[hc])];refine cg ⟨z3,?_⟩;rw[step,ao (by rw[hc];simp),bq];exact z4
   ·rw[aK (fun z=>hc (NY (Dk.lst.inj z)))];refine cW ⟨_,rfl,rK hD z3 z4 ?_ ?_⟩
    ·rw[cF];have:=HS R R';have:=b9 (fun f=>fileIn R f != fileIn R' f) ((either R R').take i);rw[b4]at this;show _<2 ^ 24;omega
    ·rw[step,aB (by simpa using hc)];show List.map _ _=_;rw[aX];rfl
  ·rw[cF,bL, <- ec]at z2;exact k H' D (sA.free hD) (sA.trans z1) z2
end
open Vbptan (Simple Line Issue placed effective fileOf Fields Register putField putFile fileIn done register upTo fieldsTold sure)
abbrev oW(xs:List Int)(H:Hp)(Q:VK):Prop:=tE (xs.map V.int) H Q
theorem oj(l:List Nat):(Vbptan.ints l).map V.int=zs l:=by unfold Vbptan.ints;rw[cX];rfl
theorem tE.of{xs:List V}{H H1:Hp}{Q:VK}(k:tE xs H Q)(s:bF H H1):tE xs H1 Q:=fun H' l hl s' e=>k H' l (s.free hl) (s.trans s') e
section
variable{P:Program}{w:World}{K:PySem.W.Frag}{mg:Str->Option Value}{base:Heap}{A:Ad}{CX:nZ}
def Uk(A:Ad):Sp:=fun vs H Q _=>∃l S,∃n:Nat,vs=[.ref l,.int (n:Nat)]/\dF A H l S/\rM S/\∀H' l',H l'=none->bF H H'->dF A H' l' (upTo n S)->Q (.ref l') H'
theorem Qs(T:gQ K mg A):Fn P w K mg base ig 1 "issues_up_to" ["issues","number"] (Uk A):=T.Ac.fn fun f fd F=>by
 refine F.ok mL (fun vs H Q E h=>?_) (fun cdv A' outer s H vs Q E hr h=>?_)
 ·obtain⟨l,S,n,rfl,_⟩:=h;rfl
 ·obtain⟨l,S,n,rfl,hI,ok,k⟩:=h;refine⟨_,aD (aW (oB (own:=[("issue",2)]) (tt:=p6 (En (Lr fun i j=>.bl (decide (i<=j))) (LQ K (cT 2) "number") (cT 1))) rfl mL.nd (fG (pv 0)) (fM (by kernel_rfl)) (fun _ _ _ _ _=>b8 (i:=2) mL.nd rfl (Or.inl rfl))
   (fun _ _ _ _ _=>by exact u9 (bz ny (bY (pv 2) rfl) (pv 1) (bM _))) (fun _ _ _ _ _=>pv 2))),?_⟩
  refine aR fun Pz pz=>?_;obtain⟨as,hl,hp⟩:=hI;refine pz ?_;refine⟨_,rfl,l,rfl,⟨_,cI.of hl⟩,fun D hD=>?_⟩;refine jA (K:=K) (a:=l) (xs:=as.map V.ref) (fun i H'=>∃as':List Addr,(bF H H'/\H' D=some (.lst (as'.map V.ref)))/\as'.length<=i/\Paired (iH A H) as' (upTo n (S.take i))) ⟨[],⟨aO hD,aj⟩,aq _,.nil⟩ (fun i H' _ ⟨_,⟨z,_⟩,_⟩=>cI.of (z _ _ hl)) (fun i x H' hi ⟨as',⟨z1,z2⟩,z3,z4⟩=>?_) (fun H' ⟨as',⟨z1,z2⟩,z3,z4⟩=>?_)
  ·obtain⟨a,ha,rfl⟩:=rO hi;refine aR fun Pz pz=>?_;obtain⟨I,hI,T3⟩:=dm hp ha;refine pz ?_;refine aR fun Pz pz=>?_;obtain⟨tx,⟨dx,ls,eI,_⟩,_⟩:=id T3;refine pz ?_;have hil:i<S.length:=(List.getElem?_eq_some_iff.mp hI).1;have step:upTo n (S.take (i+1))=upTo n (S.take i)++if decide (I.num<=n)=true then [I]else []:=by
    unfold Vbptan.upTo;rw[dO hI,fH,cD,g7]
   refine⟨rfl,_,rfl,a,_,dx,_,_,rfl,z1 _ _ eI,T.dh,T.gr,rfl,_,rfl,_,_,rfl,rfl,_,rfl,?_⟩;refine gm (fun c=>?_) (fun c=>?_)
   ·have c':=aH c;refine⟨_,rfl,as'.map V.ref,z2,?_,as'++[a],⟨fun b o e=>by rw[aI (aS e hD)];exact z1 b o e,?_⟩,?_,?_⟩
    ·rw[ai];have:=ok.few;show _<2 ^ 24;omega
    ·rw[aj,aX];rfl
    ·rw[au];show as'.length+1<=_;omega
    ·rw[step,aB (aC (by omega))];exact iO z4 T3
   ·have c':¬((I.num:Int)<=(n:Int)):=fun z=>c (aC z);refine⟨as',⟨z1,z2⟩,by omega,?_⟩;rw[step,ao (fun z=>c' (by have:=aH z;omega)),bq];exact z4
  ·rw[ai,bg hp,bL]at z4;exact k H' D hD z1 ⟨as',z2,bX (fun _ _ q=>q.same z1) z4⟩
def WQ(A:Ad):Sp:=fun vs H Q _=>∃l S,vs=[.ref l]/\dF A H l S/\rM S/\∀H0 H' f,bF H H0->bF H0 H'->gU H0 H' f (register S 99) 1000->Q (.ref f) H'
theorem xr(T:gQ K mg A):Fn P w K mg base ig 5 "all_files" ["issues"] (WQ A):=T.FA.fn fun f fd F=>by
 refine F.ok Fi (fun vs H Q E h=>?_) (fun cdv A' outer s H vs Q E hr h=>?_)
 ·obtain⟨l,S,rfl,_⟩:=h;rfl
 ·obtain⟨l,S,rfl,hI,ok,k⟩:=h;refine⟨_,aD (aW (bI (Cp T) hr bx (ah (pv 0) (ah (dS T.oM) aA)))),?_⟩;exact⟨_,rfl,l,S,99,rfl,hI,ok,k⟩
abbrev sp1(A:Ad)(g:List Issue->List Int):Sp:=fun vs H Q _=>∃l S,vs=[.ref l]/\dF A H l S/\rM S/\oW (g S) H Q
abbrev ZM(A:Ad)(g:List Issue->Nat->List Int):Sp:=fun vs H Q _=>∃l S,∃n:Nat,vs=[.ref l,.int (n:Nat)]/\dF A H l S/\rM S/\oW (g S n) H Q
abbrev ZN(A:Ad)(g:List Issue->Nat->Nat->List Int):Sp:=fun vs H Q _=>∃l S,∃n m:Nat,vs=[.ref l,.int (n:Nat),.int (m:Nat)]/\dF A H l S/\rM S/\oW (g S n m) H Q
theorem yH{R:List (Nat×List (Nat×List Nat))}(ok:DU R):R.length<=999:=by
 have go:∀(R:List (Nat×List (Nat×List Nat))) (lo:Nat),R.Pairwise (fun a b=>a.1<b.1)->(∀x∈R,lo<=x.1/\x.1<=999)->R.length<=1000-lo:=by
  intro R;induction R with
  |nil=>intro lo _ _;exact bu _
  |cons x l ih=>
   intro lo h hc;rw[dg]at h;have h0:=hc x aL;have:=ih (x.1+1) h.2 fun y hy=>⟨h.1 y hy,(hc y (aG _ hy)).2⟩
   rw[az];omega
 exact go R 1 ok.tF ok.file
def AA(S:List Issue):List Int:=0::Vbptan.ints ((register S 99).map fun x=>x.1)
theorem Oa(T:gQ K mg A):Fn P w K mg base ig 6 "tell_files" ["issues"] (sp1 A AA):=T.Ds.fn fun f fd F=>by
 refine F.ok Dh (fun vs H Q E h=>?_) (fun cdv A' outer s H vs Q E hr h=>?_)
 ·obtain⟨l,S,rfl,_⟩:=h;rfl
 ·obtain⟨l,S,rfl,hI,ok,k⟩:=h;refine⟨_,aD (aW (eB jY (b6 (ah aY aA)) (eU (pC rfl) rfl T.bn.vq PyProof.Rows.Boot.«sorted» (ah (bI (xr T) hr bx (ah (pv 0) aA)) aA)))),?_⟩;refine⟨by show 1<=sizeLine;decide,fun p hp=>?_⟩;have s1:=aO (o:=.lst [.int 0]) hp;refine⟨_,rfl,l,S,rfl,hI.same s1,ok,fun H0 H' f0 s2 s3 hF=>?_⟩;refine aR fun Pz pz=>?_;obtain⟨_,kvs,FK⟩:=hF;refine pz ?_;refine aR fun Pz pz=>?_;obtain⟨ns,en,nd,nl,hn⟩:=pS FK;refine pz ?_;have K2:=ko ok 99;refine⟨f0,kvs,qt ns,rfl,.inl FK.at_,by rw[en,sN],fun ns' q hp1 hp2 hq=>?_⟩;have perm:ns.Perm ((register S 99).map (·.1)):=(dP nd ((sO K2.tF).imp fun h=>aT h)).mpr fun n=>(hn n).trans (x9 n);rw[oU perm (sO K2.tF) hp1 hp2,ua];have s4:=aO (o:=.lst (zs ((register S 99).map (·.1)))) hq;refine⟨p,q,_,_,rfl,rfl,s4 _ _ (s3 _ _ (s2 _ _ aj)),aj,?_,fun u hu=>k _ u ?_ ?_ ?_⟩
  ·rw[cF,ai];have:=yH K2;show 1+_<=2 ^ 24;omega
  ·exact(s1.trans (s2.trans (s3.trans s4))).free hu
  ·exact s1.trans (s2.trans (s3.trans (s4.trans (aO hu))))
  ·rw[aj];unfold AA;rw[aV,oj];rfl
def DX(S:List Issue)(n:Nat):List Int:=fieldsTold (fileIn (register S 99) n)
theorem AB(T:gQ K mg A):Fn P w K mg base ig 6 "tell_record" ["issues","file"] (ZM A DX):=T.BA.fn fun f fd F=>by
 refine F.ok Bv (fun vs H Q E h=>?_) (fun cdv A' outer s H vs Q E hr h=>?_)
 ·obtain⟨l,S,n,rfl,_⟩:=h;rfl
 ·obtain⟨l,S,n,rfl,hI,ok,k⟩:=h;refine⟨_,aD (aW (bI (sP T) hr bx (ah (bI (xr T) hr bx (ah (pv 0) aA)) (ah (pv 1) aA)))),?_⟩;exact⟨_,rfl,l,S,rfl,hI,ok,fun H0 H' f0 s2 s3 hF=>⟨_,rfl,H0,f0,_,n,rfl,s3,hF,ko ok 99,tE.of k (s2.trans s3)⟩⟩
def DY(S:List Issue)(n m:Nat):List Int:=fieldsTold (fileIn (register S m) n)
theorem HV(T:gQ K mg A):Fn P w K mg base ig 6 "tell_behind" ["issues","file","number"] (ZN A DY):=T.BB.fn fun f fd F=>by
 refine F.ok Bw (fun vs H Q E h=>?_) (fun cdv A' outer s H vs Q E hr h=>?_)
 ·obtain⟨l,S,n,m,rfl,_⟩:=h;rfl
 ·obtain⟨l,S,n,m,rfl,hI,ok,k⟩:=h;refine⟨_,aD (aW (bI (sP T) hr bx (ah (bI (Cp T) hr bx (ah (pv 0) (ah (pv 2) aA))) (ah (pv 1) aA)))),?_⟩;exact⟨_,rfl,_,rfl,l,S,m,rfl,hI,ok,fun H0 H' f0 s2 s3 hF=>⟨_,rfl,H0,f0,_,n,rfl,s3,hF,ko ok m,tE.of k (s2.trans s3)⟩⟩
def F5(S:List Issue)(n m:Nat):List Int:=fieldsTold (fileIn (register (upTo m S) 99) n)
theorem Jv{S:List Issue}(ok:rM S)(m:Nat):rM (upTo m S):=ok.sub fj
theorem Ob(T:gQ K mg A):Fn P w K mg base ig 7 "tell_then" ["issues","file","number"] (ZN A F5):=T.FF.fn fun f fd F=>by
 refine F.ok Fl (fun vs H Q E h=>?_) (fun cdv A' outer s H vs Q E hr h=>?_)
 ·obtain⟨l,S,n,m,rfl,_⟩:=h;rfl
 ·obtain⟨l,S,n,m,rfl,hI,ok,k⟩:=h;refine⟨_,aD (aW (bI (AB T) hr bx (ah (bI (Qs T) hr bx (ah (pv 0) (ah (pv 2) aA))) (ah (pv 1) aA)))),?_⟩;exact⟨_,rfl,_,rfl,l,S,m,rfl,hI,ok,fun H' l' hl' s2 hI'=>⟨_,rfl,l',upTo m S,n,rfl,hI',Jv ok m,tE.of k s2⟩⟩
def Jw(S:List Issue)(n:Nat):List Int:=[if sure S n=true then 1 else 0]
theorem Oc(T:gQ K mg A):Fn P w K mg base ig 5 "tell_sure" ["issues","file"] (ZM A Jw):=T.FE.fn fun f fd F=>by
 refine F.ok Fj (fun vs H Q E h=>?_) (fun cdv A' outer s H vs Q E hr h=>?_)
 ·obtain⟨l,S,n,rfl,_⟩:=h;rfl
 ·obtain⟨l,S,n,rfl,hI,ok,k⟩:=h;refine⟨_,aD (aW (uR (ie (bI (Qn T) hr bx (ah (pv 0) (ah (pv 1) aA)))) (b6 (ah aY aA)) (b6 (ah aY aA)))),?_⟩;refine⟨_,rfl,_,rfl,l,S,n,rfl,hI,ok,fun H' s'=>⟨_,rfl,?_⟩⟩;have k:=tE.of k s';unfold Jw at k;refine gm (fun c=>?_) (fun c=>?_)
  ·rw[aB c]at k;exact⟨by show 1<=sizeLine;decide,fun p hp=>k _ p hp (aO hp) aj⟩
  ·rw[ao c]at k;exact⟨by show 1<=sizeLine;decide,fun p hp=>k _ p hp (aO hp) aj⟩
def uG(S:List Issue)(n c:Nat):List Int:=match (fileIn (register S 99) n).bind fun l=>iy l c with
 |none=>[-8]
 |some v=>0::Vbptan.ints v
theorem K6(T:gQ K mg A):Fn P w K mg base ig 6 "tell_value" ["issues","file","code"] (ZN A uG):=T.Dt.fn fun f fd F=>by
 refine F.ok vH (fun vs H Q E h=>?_) (fun cdv A' outer s H vs Q E hr h=>?_)
 ·obtain⟨l,S,n,m,rfl,_⟩:=h;rfl
 ·obtain⟨l,S,n,c,rfl,hI,ok,k⟩:=h;refine⟨_,ay (bH (i:=3) vH.nd rfl (Or.inl rfl) (EG (eL hr) (bI (xr T) hr bx (ah (pv 0) aA)) (pv 1) qK ⟨rfl,rfl,rfl,rfl⟩))
   (ay (b7 (qx (oF (eL hr) (pv 2) (pv 3))) (aD (aW (b6 (ah (dS T.HL) aA)))) bC)
   (aD (aW (eB jY (b6 (ah aY aA)) (gc (eL hr) (pv 3) (pv 2) (fun _ _=>rfl)))))),?_⟩
  refine⟨_,rfl,l,S,rfl,hI,ok,fun H0 H' f0 s2 s3 hF=>?_⟩;refine aR fun Pz pz=>?_;obtain⟨_,kvs,FK⟩:=hF;refine pz ?_;have K2:=ko ok 99;refine⟨f0,rfl,.inl ⟨_,.inl FK.at_⟩,_,rfl,fun p hp=>?_⟩;have s4:=aO (o:=.dK []) hp;have sA:=(s2.trans s3).trans s4;have k:=tE.of k sA;refine⟨_,fO.k (k:=kN n) (s4 _ _ FK.at_),?_⟩;have q:=FK.val n;unfold uG at k;cases hq:fileIn (register S 99) n with
  |none=>
   rw[hq]at q k;have q:dc kvs (kN n)=none:=q;rw[q];refine⟨_,rfl,_,rfl,p,_,rfl,fO.k (k:=kN c) aj,_,rfl,cW ?_⟩;exact⟨by show 1<=sizeLine;decide,fun p hp=>k _ p hp (aO hp) aj⟩
  |some fs=>
   rw[hq]at q k;refine aR fun Pz pz=>?_;obtain⟨d,ed,nf,Ui,kk,hk,hkl,hkn,hkv⟩:=q;refine pz ?_;rw[ed];have HR:K1 fs:=K2.oh _ (gG hq);have k:tE ((match iy fs c with
    |none=>[-8]
    |some v=>(0:Int)::Vbptan.ints v).map V.int) _ Q:=k
   refine⟨_,rfl,_,rfl,d,_,rfl,fO.k (k:=kN c) (s4 _ _ hk),_,rfl,?_⟩;have hv:=hkv c;cases hf:iy fs c with
   |none=>
    rw[hf]at hv k;have hv:dc kk (kN c)=none:=hv;rw[hv];exact cW ⟨by show 1<=sizeLine;decide,fun p hp=>k _ p hp (aO hp) aj⟩
   |some v=>
    rw[hf]at hv k;refine aR fun Pz pz=>?_;obtain⟨b,hb1,hb2⟩:=hv;refine pz ?_;rw[hb1];refine cg ⟨by show 1<=sizeLine;decide,fun q hq=>?_⟩;have s5:=aO (o:=.lst [.int 0]) hq;refine⟨_,rfl,_,rfl,d,_,rfl,by rw[<- hb1];exact fO.k (k:=kN c) (s5 _ _ (s4 _ _ hk)),q,b,_,_,rfl,rfl,aj,s5 _ _ (s4 _ _ (s3 _ _ hb2)),?_,fun u hu=>k _ u (s5.free hu) (s5.trans (aO hu)) ?_⟩
    ·rw[cF];have:v.length<=12:=by
      have:(iy fs c).isSome=true:=by rw[hf];rfl
      unfold iy at hf;refine aR fun Pz pz=>?_;obtain⟨x,hx,ex⟩:=Option.map_eq_some_iff.mp hf;refine pz ?_;rw[<- ex];exact HR.val x (fB hx)
     show 1+_<=2 ^ 24;omega
    ·rw[aj,aV,oj];rfl
end
end Gz
namespace L2
open PySem PySem.Spec PyProof.Rows
theorem Qt{prog:Program}{w:World}{a:Addr}{ob:Obj}{tab:Array DictEntry}{e0:Nat}(ns:(a==sysModules)=false)(hx:ob.data=.dict tab e0):
  MeetsIn prog w (Builtin.«dict.__len__» ⟨[.ref a],[]⟩) fun _ R st=>st.heap.get? a=some ob/\R (.ok (.ret (.int tab.size st.toks))) {st with toks:=st.toks+1}:=by
 refine .of_wp fun A R st ⟨hob,fin⟩=>?_;show wpAny (model prog w) A.in1 (dictSize a >>=_) _ _ st;unfold dictSize;refine aa (aa (dH hob hx (ak ?_)));show wpAny (model prog w) A.in1 (Builtin.Dict.pendingCount a >>=_) _ _ st;refine aa (wpAny_pendingCount_other ns (wpAny_ret_mkInt ?_));exact fin
theorem K7{X:Cx} :lE X (.builtin "len") (fun xs H Q=>∃a kvs,xs=[V.ref a]/\Rd H a (.dT kvs)/\Q (.int kvs.length) H):=by
 intro pins s σ H xs us Q I r h;obtain⟨a,kvs,rfl,ha,q⟩:=h;obtain⟨u,rfl,ru⟩:=vals1 r;cases ru;obtain⟨z,ns,ys,kt,o,tab,e0,h1,h2,h3,h4,_⟩:=(show eX X.prog X.w H s.heap a (.dT kvs)from ha.ok I.hok)
 have ty:s.TypeIs (.ref a) "dict":=⟨o,h1,h2.1⟩
 have el:tab.size=kvs.length:=by
  rw[bg kt, <- aJ,h4,ai]
 refine Calls.call_function_entry kind_len plain_len entry_len (args_len1 _) ?_;unfold Builtin.«len»;refine aa (m:=oneArg "len" _) (ak ?_);refine aa (bZ (name:="__len__") ty F.slot_dict_len (jR F.slot_dict_len ty F.entry_dict_len (F.args_dict_len_1 _) (Qt ns h3) ⟨h1,?_⟩));refine aa (dB (ak (aa (lO ?_))));have n0:¬((tab.size:Nat):Int)<0:=by omega
 have n1:¬((tab.size:Nat):Int) >= 2 ^ 63:=by rw[el];rw[jN]at z;omega
 show wpAny (model X.prog X.w) _ (if((tab.size:Nat):Int)<0 then _ else if((tab.size:Nat):Int) >= 2 ^ 63 then _ else _) _ _ _;rw[ao n0,ao n1,el];exact aa (wpAny_mkInt (ak ⟨_,rfl,.int kvs.length,H,I.tok _,⟨_,rfl⟩,q⟩))
end L2
namespace Gz
open PySem PySem.Spec PyProof.Rows L2
open Vbptan (Simple Line Issue placed effective fileOf Fields Register putField putFile fileIn done register upTo fieldsTold sure standing)
def ZO(a b:Pl):Prop:=a.1<b.1\/a.1=b.1/\a.2<b.2
theorem Od(I:Issue):(kj I).Pairwise fun a b=>ZO a.1 b.1:=by
 unfold kj;rw[cY];have go:∀(l:List Line) (k:Nat),(l.zipIdx k).Pairwise fun a b=>a.2<b.2:=by
  intro l;induction l with
  |nil=>intro k;exact List.Pairwise.nil
  |cons x l ih=>
   intro k;rw[A5];refine List.Pairwise.cons (fun y hy=>?_) (ih (k+1));have:=List.le_snd_of_mem_zipIdx hy;show k<y.2;omega
 exact(go I.lines 1).imp fun h=>.inr ⟨rfl,h⟩
theorem ya:∀(S:List Issue),S.Pairwise (fun a b=>a.num<b.num)->(placed S).Pairwise fun a b=>ZO a.1 b.1
 |[],_=>List.Pairwise.nil
 |I::S,h=>by
  rw[rL,kX];rw[dg]at h;refine⟨Od I,ya S h.2,fun a ha b hb=>?_⟩;refine aR fun Pz pz=>?_;obtain⟨J,hJ,hb⟩:=List.mem_flatMap.mp hb;refine pz ?_;have e1:=vV ha;have e2:=vV (I:=J) hb;have:=h.1 J hJ;exact .inl (by omega)
def Cq(S:List Issue):List Int:=match (standing (placed S)).getLast? with
 |none=>[0]
 |some x=>1::Vbptan.ints [x.1.1,x.1.2]
def rQ(S:List Issue)(n:Nat):List Int:=0::((effective (placed S)).filter fun x=>fileOf x.2==n).flatMap fun x=>Vbptan.ints [x.1.1,x.1.2]
def pT(S:List Issue)(c:Nat)(b:List Nat):List Int:=0::Vbptan.ints (((register S 99).filter fun x=>x.2.contains (c,b)).map fun x=>x.1)
def mX(S:List Issue)(ns:List Int):List Issue:=S.filter fun x=> !ns.contains (x.num:Int)
def oX(S:List Issue)(ns:List Int):List Int:=((oV (register S 99) (register (mX S ns) 99)).length:Int)::Vbptan.ints (oV (register S 99) (register (mX S ns) 99))
section
variable{P:Program}{w:World}{K:PySem.W.Frag}{mg:Str->Option Value}{base:Heap}{A:Ad}{CX:nZ}
theorem Oe(T:gQ K mg A):Fn P w K mg base ig 3 "tell_last" ["issues"] (sp1 A Cq):=T.FI.fn fun f fd F=>by
 refine F.ok rg (fun vs H Q E h=>?_) (fun cdv A' outer s H vs Q E hr h=>?_)
 ·obtain⟨l,S,rfl,_⟩:=h;rfl
 ·refine aR fun Pz pz=>?_;obtain⟨l,S,rfl,hI,ok,k⟩:=h;refine pz ?_;refine⟨_,ay (bH (i:=1) rg.nd rfl (Or.inl rfl) (bI (nI T) hr bx (ah (bI (sJ T) hr bx (ah (pv 0) aA)) aA)))
   (ay (b7 (bz gk (eU K7 rfl T.bn.len uc (ah (pv 1) aA)) aY (bM _)) (aD (aW (b6 (ah aY aA)))) bC)
   (ay (bH (i:=2) rg.nd rfl (Or.inl rfl) (eU (Pg rfl hr.units) rfl T.bn.S1 PyProof.Rows.Boot.«max» (ah (pv 1) aA)))
   (aD (aW (b6 (ah aY (ah (fJ iQ (pv 2) aY (fun _ _=>rfl)) (ah (fJ iQ (pv 2) aY (fun _ _=>rfl)) aA)))))))),?_⟩
  refine⟨_,rfl,H,l,S,rfl,bF.refl _,hI,iJ S ok.tF,ok.len,fun H1 d kvs hd s1 hkd hp=>?_⟩;refine⟨d,placed S,rfl,⟨kvs,hkd,bX (fun _ _ q=>q.same s1) hp⟩,iJ S ok.tF,ok.len,fun H2 e he s2 h2=>?_⟩;have k:=tE.of k (s1.trans s2);unfold Cq at k;refine⟨_,rfl,e,_,rfl,.inl h2,rfl,_,rfl,?_⟩;have el:(jI (standing (placed S))).length=(standing (placed S)).length:=by rw[ai,gy]
  rw[el];have rise:=(ya S ok.tF).sublist (eS (placed S));generalize standing (placed S)=st at *;cases hr0:st.reverse with
  |nil=>
   have e0:st=[]:=List.reverse_eq_nil_iff.mp hr0;subst e0;exact cW ⟨by show 1<=sizeLine;decide,fun p hp=>k _ p hp (aO hp) aj⟩
  |cons y rest=>
   have e0:st=rest.reverse++[y]:=by rw[<- List.reverse_reverse st,hr0,List.reverse_cons]
   have eg:st.getLast? =some y:=by rw[e0,List.getLast?_append];rfl
   rw[eg]at k;have n0:decide (V.int (st.length:Int)=V.int 0)=false:=aK (fun z=>by
    injection z with z;have:st.length=rest.length+1:=by rw[<- gy,hr0];rfl
    omega)
   rw[n0];refine cg ⟨_,rfl,e,_,[(y.1.1:Int),(y.1.2:Int)],rest.map fun z=>[(z.1.1:Int),(z.1.2:Int)],rfl,.inl h2,?_,?_,fun q hq=>?_⟩
   ·show List.map _ (List.map _ st.reverse)=_;rw[hr0,cX,aV,aV,cX];rfl
   ·intro ms hms;obtain⟨z,hz,rfl⟩:=List.mem_map.mp hms;have hlt:ZO z.1 y.1:=by
     rw[e0,kX]at rise;exact rise.2.2 z (List.mem_reverse.mpr hz) y (List.mem_singleton.mpr rfl)
    rcases hlt with h|⟨h1,h2⟩
    ·rw[HT.pq,ao (by omega)];exact aK (by omega)
    ·rw[HT.pq,aB (by omega),HT.pq,ao (by omega)];exact aK (by omega)
   ·refine⟨_,rfl,q,_,_,_,rfl,rfl,lD.of hq,cB (j:=0) rfl,_,rfl,q,_,_,_,rfl,rfl,lD.of hq,cB (j:=1) rfl,by show 3<=sizeLine;decide,fun p hp=>k _ p hp (aO hp) aj⟩
theorem F6(T:gQ K mg A):Fn P w K mg base ig 4 "tell_history" ["issues","file"] (ZM A rQ):=T.Af.fn fun f fd F=>by
 refine F.ok jG (fun vs H Q E h=>?_) (fun cdv A' outer s H vs Q E hr h=>?_)
 ·obtain⟨l,S,n,rfl,_⟩:=h;rfl
 ·refine aR fun Pz pz=>?_;obtain⟨l,S,n,rfl,hI,ok,k⟩:=h;refine pz ?_;refine⟨_,ay (bH (i:=2) jG.nd rfl (Or.inl rfl) (b6 (ah aY aA)))
   (ay (i9 cH rfl (fG (bI (DS T) hr bx (ah (pv 0) aA))) (nY rfl (dN (b8 (i:=3) jG.nd rfl (Or.inl rfl)) (dN (b8 (i:=4) jG.nd rfl (Or.inl rfl)) kC)))
    (aD (b7 (bz gk (bY (pv 4) rfl) (pv 1) (bM _)) (aD (xq (pv 2) (b6 (ah (fJ iQ (pv 3) aY (fun _ _=>rfl)) (ah (fJ iQ (pv 3) aY (fun _ _=>rfl)) aA))))) bC)))
   (aD (aW (pv 2)))),?_⟩
  refine⟨by show 1<=sizeLine;decide,fun r hr'=>?_⟩;have s1:=aO (o:=.lst [.int 0]) hr';refine⟨_,rfl,H,l,S,rfl,s1,hI,iJ S ok.tF,ok.len,fun H2 e he s2 hE=>?_⟩;refine aR fun Pz pz=>?_;obtain⟨ts,ht,hX⟩:=hE;refine pz ?_;have hr2:H2 r=some (.lst [.int 0]):=s2 _ _ aj;have ner:e≠r:=fun z=>by rw[z,aj]at he;cases he
  have hfew:(effective (placed S)).length<=1000:=aP (by rw[iI];exact Ba _ _) ok.len;have hlen:ts.length=(effective (placed S)).length:=bg hX;refine⟨e,rfl,⟨_,cI.of ht⟩,mz (K:=K) (a:=e) (xs:=ts.map V.ref) (fun i σ H'=>(∃(v3 v4:Option V),σ=[some (.ref l),some (.int (n:Nat)),some (.ref r),v3,v4])/\SameBut r H2 H'/\∃out:List Int,H' r=some (.lst (out.map V.int))/\out.length<=1+2*i/\out=0::(((effective (placed S)).take i).filter fun x=>fileOf x.2==n).flatMap fun x=>Vbptan.ints [x.1.1,x.1.2])
   ⟨⟨none,none,rfl⟩,(bF.refl _).but,[0],hr2,aq _,rfl⟩ (fun i σ H' _ ⟨_,z,_⟩=>cI.of (z _ _ ht ner)) ?_ ?_⟩
  ·intro i x σ H' hi hz;refine aR fun Pz pz=>?_;obtain⟨⟨v3,v4,rfl⟩,sb,out,h1,h2,h3⟩:=hz;refine pz ?_;obtain⟨t,Ud,rfl⟩:=rO hi;refine aR fun Pz pz=>?_;obtain⟨y,hy,q,a,z1,z2,dx,d,z3,z4⟩:=dm hX Ud;refine pz ?_;have hil:i<ts.length:=(List.getElem?_eq_some_iff.mp Ud).1;have z1':=sb _ _ z1 (ic z1 hr2 (by intro z;cases z));have z2':=sb _ _ z2 (ic z2 hr2 (by intro z;cases z));have z3':=sb _ _ (s2 _ _ (s1 _ _ z3)) (aS z3 hr');have step:(((effective (placed S)).take (i+1)).filter fun x=>fileOf x.2==n)=(((effective (placed S)).take i).filter fun x=>fileOf x.2==n)++if(fileOf y.2==n)=true then [y]else []:=by
    rw[dO hy,fH,cD,g7]
   refine⟨t,_,rfl,lD.of z1',rfl,_,_,rfl,_,_,rfl,rfl,?_⟩;refine⟨_,rfl,a,_,dx,_,_,rfl,z3',T.eE,T.rC,rfl,_,rfl,rfl,_,rfl,?_⟩;rw[pM];refine gm (fun c=>?_) (fun c=>?_)
   ·have c':=aH c;refine⟨_,rfl,.inl ⟨rfl,_,cI.of h1⟩,_,rfl,q,_,_,_,rfl,rfl,lD.of z2',cB (j:=0) rfl,_,rfl,q,_,_,_,rfl,rfl,lD.of z2',cB (j:=1) rfl,by show 2<=sizeLine;decide,fun b hb=>?_⟩;have nb:b≠r:=fun z=>by rw[z,h1]at hb;cases hb
    refine⟨r,b,_,_,rfl,rfl,by rw[aI (bP nb)];exact h1,aj,by rw[ai];show _+2<=2 ^ 24;omega,⟨_,_,rfl⟩,(sb.trans (aO hb).but).trans d7,out++[(y.1.1:Int),(y.1.2:Int)],?_,?_,?_⟩
    ·rw[aj,aX];rfl
    ·rw[au];show _+2<=_;omega
    ·rw[h3,step,aB (beq_iff_eq.mpr c'),fz];rfl
   ·refine⟨⟨_,_,rfl⟩,sb,out,h1,by omega,?_⟩;rw[h3,step,ao (fun z=>c (aC (jo z))),bq]
  ·intro σ H' hz;refine aR fun Pz pz=>?_;obtain⟨⟨v3,v4,rfl⟩,sb,out,h1,h2,h3⟩:=hz;refine pz ?_;rw[ai,hlen,bL]at h3;refine⟨_,rfl,k H' r hr' (fun b o e=>sb _ _ (s2 _ _ (s1 _ _ e)) (aS e hr')) ?_⟩;rw[h1,h3];rfl
def Of(A:Ad):Sp:=fun vs H Q _=>∃l S a b,∃c:Nat,vs=[.ref l,.int (c:Nat),.ref a]/\dF A H l S/\rM S/\H a=some (.lst (zs b))/\oW (pT S c b) H Q
theorem D9{fs:List (Nat×List Nat)}(h:fs.Pairwise fun a b=>a.1<b.1)(c:Nat)(b:List Nat):fs.contains (c,b)=decide (iy fs c=some b):=by
 induction fs with
 |nil=>rfl
 |cons x l ih=>
  rw[dg]at h;rw[nu,ih h.2,gF,cR,A8,Lp,aZ,aZ];by_cases e:x.1=c
  ·rw[aB e];constructor
   ·rintro (z|z)
    ·rw[<- z]
    ·have:(iy l c).isSome=true:=by rw[z];rfl
     obtain⟨y,hy,ey⟩:=List.mem_map.mp ((Ay c).mp this);have:=h.1 y hy;omega
   ·intro z;exact .inl (Prod.ext e.symm (aQ z).symm)
  ·rw[ao e];exact⟨fun z=>z.elim (fun z=>absurd (by rw[<- z]) e) id,.inr⟩
theorem Qu{R:List (Nat×List (Nat×List Nat))}{x:Nat×List (Nat×List Nat)}(h:R.Pairwise fun a b=>a.1<b.1)(hx:x∈R):fileIn R x.1=some x.2:=by
 induction R with
 |nil=>cases hx
 |cons y l ih=>
  rw[dg]at h;rw[fq];rcases List.mem_cons.mp hx with rfl|hx
  ·rw[aB rfl]
  ·rw[ao (fun e=>by have:=h.1 x hx;omega)];exact ih h.2 hx
theorem HW(T:gQ K mg A):Fn P w K mg base ig 6 "tell_search" ["issues","code","value"] (Of A):=T.BC.fn fun f fd F=>by
 refine F.ok kE (fun vs H Q E h=>?_) (fun cdv A' outer s H vs Q E hr h=>?_)
 ·obtain⟨l,S,a,b,c,rfl,_⟩:=h;rfl
 ·refine aR fun Pz pz=>?_;obtain⟨l,S,a,b,c,rfl,hI,ok,ha,k⟩:=h;refine pz ?_;refine⟨_,ay (bH (i:=3) kE.nd rfl (Or.inr rfl) (bI (xr T) hr bx (ah (pv 0) aA)))
   (aD (aW (eB jY (b6 (ah aY aA)) (oB (own:=[("file",4)]) (tt:=p6 (En (Wl K) (Mg (Rb (cT 3) (cT 4)) (cT 1)) (cT 2))) rfl kE.nd (fG (eU (pC rfl) rfl T.bn.vq PyProof.Rows.Boot.«sorted» (ah (pv 3) aA))) (fM (by kernel_rfl)) (fun _ _ _ _ _=>b8 (i:=4) kE.nd rfl (Or.inl rfl))
    (fun _ _ _ _ _=>by exact u9 (bz (DC hr.units) (EF (eL hr) (gc (eL hr) (pv 3) (pv 4) (fun _ _=>rfl)) (pv 1) ⟨rfl,rfl,rfl,rfl⟩) (pv 2) (bM _))) (fun _ _ _ _ _=>pv 4))))),?_⟩
  refine⟨_,rfl,l,S,rfl,hI,ok,fun H0 H1 f0 s2 s3 hF=>?_⟩;obtain⟨_,kvs,FK⟩:=hF;refine aR fun Pz pz=>?_;obtain⟨ns,en,nd,nl,hn⟩:=pS FK;refine pz ?_;have K2:=ko ok 99;have k:=tE.of k (s2.trans s3);have ha1:=(s2.trans s3) _ _ ha;unfold pT at k;generalize register S 99=R at *;refine⟨by show 1<=sizeLine;decide,fun p hp=>?_⟩;have s4:=aO (o:=.lst [.int 0]) hp;refine⟨_,rfl,f0,kvs,qt ns,rfl,.inl (s4 _ _ FK.at_),by rw[en,sN],fun ns' q hp1 hp2 hq=>?_⟩;have perm:ns.Perm (R.map (·.1)):=(dP nd ((sO K2.tF).imp fun h=>aT h)).mpr fun n=>(hn n).trans (x9 n);rw[oU perm (sO K2.tF) hp1 hp2,ua];have s5:=aO (o:=.lst (zs (R.map (·.1)))) hq;refine⟨q,rfl,⟨_,cI.of aj⟩,fun D hD=>?_⟩;have rl:=yH K2;refine jA (K:=K) (a:=q) (xs:=zs (R.map (·.1))) (fun i H'=>bF (upd (upd H1 p (.lst [.int 0])) q (.lst (zs (R.map (·.1))))) H'/\H' D=some (.lst (zs (((R.take i).filter fun x=>x.2.contains (c,b)).map fun x=>x.1)))) ⟨aO hD,aj⟩ (fun i H' _ ⟨z,_⟩=>cI.of (z _ _ aj)) (fun i x H' hi ⟨z1,z2⟩=>?_) (fun H' ⟨z1,z2⟩=>?_)
  ·obtain⟨n,hn',rfl⟩:=xE hi;rw[bf]at hn';obtain⟨y,hy,rfl⟩:=Option.map_eq_some_iff.mp hn';have F2:y∈R:=bW hy;have qv:=FK.val y.1;rw[Qu K2.tF F2]at qv;refine aR fun Pz pz=>?_;obtain⟨d,ed,nf,Ui,kk,hk,hkl,hkn,hkv⟩:=qv;refine pz ?_;have zA:=(s4.trans s5).trans z1;have hk':=zA _ _ hk;have hfA:=zA _ _ FK.at_;refine⟨rfl,_,rfl,_,rfl,f0,_,rfl,by rw[<- ed];exact fO.k (k:=kN y.1) hfA,d,rfl,.inl ⟨_,.inl hk'⟩,_,rfl,_,fO.k (k:=kN c) hk',?_⟩;have hv:=hkv c;have HR:=K2.oh y F2;have step:(((R.take (i+1)).filter fun x=>x.2.contains (c,b)).map fun x=>x.1)=(((R.take i).filter fun x=>x.2.contains (c,b)).map fun x=>x.1)++if y.2.contains (c,b)=true then [y.1]else []:=by
    rw[dO hy,fH,cD,g7,aX]
    congr 1
    split<;>rfl
   rw[D9 HR.tF]at step;have fin:∀dk:Dk,(decide (dk=.lst (qt b))=decide (iy y.2 c=some b))->(∃kq,V.bl (decide (dk=Dk.lst (qt b)))=.bl kq/\if kq=true then(cT 4) ((wipe [some (.ref l),some (.int (c:Nat)),some (.ref a),some (.ref f0),none] [4]).set 4 (some (.int (y.1:Int)))) H' (fun y' H4=>∃acc,H4 D=some (.lst acc)/\acc.length<sizeLine/\bF (upd (upd H1 p (.lst [.int 0])) q (.lst (zs (R.map (·.1))))) (upd H4 D (.lst (acc++[y'])))/\upd H4 D (.lst (acc++[y'])) D=some (.lst (zs (((R.take (i+1)).filter fun x=>x.2.contains (c,b)).map fun x=>x.1))))else bF (upd (upd H1 p (.lst [.int 0])) q (.lst (zs (R.map (·.1))))) H'/\H' D=some (.lst (zs (((R.take (i+1)).filter fun x=>x.2.contains (c,b)).map fun x=>x.1)))):=fun dk ZP=>by
    refine⟨_,rfl,?_⟩;rw[ZP];refine gm (fun cc=>?_) (fun cc=>?_)
    ·refine⟨_,rfl,rK hD z1 z2 ?_ ?_⟩
     ·rw[cF,ai];refine cM (b9 _ _) (cM (List.length_take_le' _ _) (cM rl (by decide)))
     ·rw[step,aB cc];show List.map _ _=_;rw[aX];rfl
    ·refine⟨z1,?_⟩;rw[step,ao cc,bq];exact z2
   cases hf:iy y.2 c with
   |none=>
    rw[hf]at hv fin;have hv:dc kk (kN c)=none:=hv;rw[hv];exact⟨_,rfl,.dY,.lst (qt b),rfl,An (cI.of (zA _ _ ha1)),fin _ (by rw[aK (by intro z;cases z),aK (by intro z;cases z)])⟩
   |some v=>
    rw[hf]at hv fin;obtain⟨bb,hb1,hb2⟩:=hv;rw[hb1];refine⟨_,rfl,.lst (qt v),.lst (qt b),An (cI.of (zA _ _ (s3 _ _ hb2))),An (cI.of (zA _ _ ha1)),fin _ ?_⟩;rw[decide_eq_decide];exact⟨fun z=>by rw[AZ.mp (Dk.lst.inj z)],fun z=>by rw[aQ z]⟩
  ·rw[cF,ai,bL]at z2;have zA:=(s4.trans s5).trans z1;refine⟨p,D,_,_,rfl,rfl,z1 _ _ (s5 _ _ aj),z2,?_,fun u hu=>k _ u ?_ ?_ ?_⟩
   ·rw[cF,ai];exact aP (Nat.add_le_add_left (aP (b9 _ _) rl) 1) (by decide)
   ·exact zA.free hu
   ·exact zA.trans (aO hu)
   ·rw[aj,aV,oj];rfl
end
open TL (fP ID BU GY BS EK GX)
open Vbptan (Simple Line Issue placed effective fileOf Fields Register putField putFile fileIn done register upTo fieldsTold sure standing spaced digits shownNumber simpleText sealed check NL)
section
variable{P:Program}{w:World}{K:PySem.W.Frag}{mg:Str->Option Value}{base:Heap}{A:Ad}{CX:nZ}
def K8(A:Ad):Sp:=fun vs H Q _=>∃l S a ns,vs=[.ref l,.ref a]/\dF A H l S/\rM S/\H a=some (.lst (List.map V.int ns))/\oW (oX S ns) H Q
theorem F7(T:gQ K mg A):Fn P w K mg base ig 6 "tell_without" ["issues","numbers"] (K8 A):=T.Ag.fn fun f fd F=>by
 refine F.ok jH (fun vs H Q E h=>?_) (fun cdv A' outer s H vs Q E hr h=>?_)
 ·obtain⟨l,S,a,ns,rfl,_⟩:=h;rfl
 ·obtain⟨l,S,a,ns,rfl,hI,ok,ha,k⟩:=h;refine⟨_,ay (L7 (i:=2) (own:=[("issue",3)]) (tt:=p6 (En (Q6 K true) (LQ K (cT 3) "number") (cT 1))) rfl jH.nd rfl rfl (O2 rfl rfl rfl rfl) (fG (pv 0)) (fM (by kernel_rfl)) (fun _ _ _ _ _=>b8 (i:=3) jH.nd rfl (Or.inl rfl))
    (fun _ _ _ _ _=>by exact u9 (bz uX (bY (pv 3) rfl) (pv 1) rfl)) (fun _ _ _ _ _=>pv 3))
   (ay (bH (i:=4) jH.nd rfl (Or.inl rfl) (bI (K5 T) hr bx (ah (bI (xr T) hr bx (ah (pv 0) aA)) (ah (bI (xr T) hr bx (ah (pv 2) aA)) aA))))
   (aD (aW (eB jY (b6 (ah (fX T.bn (pv 4)) aA)) (pv 4))))),?_⟩
  refine aR fun Pz pz=>?_;obtain⟨as,hl,hp⟩:=id hI;refine pz ?_;refine⟨_,rfl,l,rfl,⟨_,cI.of hl⟩,fun D hD=>?_⟩;refine jA (K:=K) (a:=l) (xs:=as.map V.ref) (fun i H'=>∃as':List Addr,(bF H H'/\H' D=some (.lst (as'.map V.ref)))/\as'.length<=i/\Paired (iH A H) as' (mX (S.take i) ns)) ⟨[],⟨aO hD,aj⟩,aq _,.nil⟩ (fun i H' _ ⟨_,⟨z,_⟩,_⟩=>cI.of (z _ _ hl)) (fun i x H' hi ⟨as',⟨z1,z2⟩,z3,z4⟩=>?_) (fun H' ⟨as',⟨z1,z2⟩,z3,z4⟩=>?_)
  ·obtain⟨a',ha',rfl⟩:=rO hi;refine aR fun Pz pz=>?_;obtain⟨I,hI',T3⟩:=dm hp ha';refine pz ?_;refine aR fun Pz pz=>?_;obtain⟨tx,⟨dx,ls,eI,_⟩,_⟩:=id T3;refine pz ?_;have hil:i<S.length:=(List.getElem?_eq_some_iff.mp hI').1;have step:mX (S.take (i+1)) ns=mX (S.take i) ns++if(!ns.contains (I.num:Int))=true then [I]else []:=by
    unfold mX;rw[dO hI',fH,cD,g7]
   refine⟨rfl,_,rfl,a',_,dx,_,_,rfl,z1 _ _ eI,T.dh,T.gr,rfl,_,rfl,a,_,rfl,.inl (cI.of (z1 _ _ ha)),rfl,jk _,_,rfl,?_⟩;have ec:(if true=true then !Lu (.int (I.num:Int)) (List.map V.int ns)else Lu (.int (I.num:Int)) (List.map V.int ns))= !ns.contains (I.num:Int):=by
    rw[aB rfl,nL]
    congr 1
    rw[cR,aZ,List.contains_iff_mem]
   rw[ec];refine gm (fun c=>?_) (fun c=>?_)
   ·refine⟨_,rfl,as'.map V.ref,z2,?_,as'++[a'],⟨fun b o e=>by rw[aI (aS e hD)];exact z1 b o e,?_⟩,?_,?_⟩
    ·rw[ai];have:=ok.few;show _<2 ^ 24;omega
    ·rw[aj,aX];rfl
    ·rw[au];show as'.length+1<=_;omega
    ·rw[step,aB c];exact iO z4 T3
   ·refine⟨as',⟨z1,z2⟩,by omega,?_⟩;rw[step,ao c,bq];exact z4
  ·rw[ai,bg hp,bL]at z4;have okL:rM (mX S ns):=ok.sub fj;refine⟨_,rfl,l,S,rfl,hI.same z1,ok,fun H0 H1 f0 s2 s3 hF=>?_⟩;have sA:=z1.trans (s2.trans s3);refine⟨_,rfl,D,mX S ns,rfl,⟨as',(s2.trans s3) _ _ z2,bX (fun _ _ q=>q.same sA) z4⟩,okL,fun H2 H3 g0 s4 s5 hG=>?_⟩;have sB:=s4.trans s5;refine⟨H0,H2,f0,g0,_,_,rfl,s3.trans sB,hF.same sB,ko ok 99,s5,hG,ko okL 99,fun H4 c hc s6 h6=>?_⟩;have dl:(oV (register S 99) (register (mX S ns) 99)).length<=999:=by
    unfold oV;exact aP (b9 _ _) (by rw[ai,fU];exact aq _)
   refine⟨_,rfl,c,_,rfl,.inl (cI.of h6),by show 1<=sizeLine;decide,fun p hp=>?_⟩;have s7:=aO (o:=.lst [.int (zs (oV (register S 99) (register (mX S ns) 99))).length]) hp;refine⟨_,rfl,p,c,_,_,rfl,rfl,aj,s7 _ _ h6,?_,fun u hu=>k _ u ?_ ?_ ?_⟩
   ·rw[cF];show 1+_<=2 ^ 24;omega
   ·exact(sA.trans (sB.trans (s6.trans s7))).free hu
   ·exact sA.trans (sB.trans (s6.trans (s7.trans (aO hu))))
   ·rw[aj,cF];unfold oX;rw[aV,oj];rfl
theorem AD:∀(f n:Nat),n<10 ^ f->1<=f->digits f n=fP n
 |0,_,_,h=>absurd h (by decide)
 |f+1,n,h,_=>by
  unfold digits;by_cases h1:n<10
  ·rw[aB h1,ID h1]
  ·rw[ao h1,BU (by omega)];have hf:1<=f:=by
    cases f with
    |zero=>exact absurd h (by show ¬n<10 ^ 1;omega)
    |succ f=>omega
   rw[AD f (n / 10) (by rw[Nat.pow_succ]at h;omega) hf]
theorem l8{n:Nat}(h:n<=100000):shownNumber n=fP n:=AD 10 n (by omega) (by decide)
theorem lg(n:Nat):bs (Str.ofString (toString ((n:Nat):Int)))=fP n:=GY n
theorem fF(x y:Str):bs (x++y)=bs x++bs y:=BS x y
theorem i6{n:Nat}(h:n<=100000):(fP n).length<=6:=EK (by decide) (by omega)
theorem l9{n:Nat}(h:n<=100000):((n:Nat):Int).natAbs.log2<1920:=by
 rw[Int.natAbs_natCast];by_cases h0:n=0
 ·rw[h0];decide
 ·exact(Nat.log2_lt h0).mpr (cM h (br (show 100000<2 ^ 17 by decide) (Nat.pow_le_pow_right (by decide) (by decide))))
theorem pU(x:Str):x.length=(bs x).length:=GX x
theorem yI(x:Str):x.cps.size=(bs x).length:=by show _=x.cps.toList.length;rw[aJ]
theorem jm:∀(w:List Nat) (l:List (List Nat)),spaced (w::l)=w++l.flatMap fun x=>32::x
 |w,[]=>by rw[sS,bq];rfl
 |w,x::l=>by
  show w++32::spaced (x::l)=_;rw[jm x l,cO];rfl
abbrev wf(x:Nat×List Nat):List Nat:=32::(fP x.1++32::x.2)
def headOf(s:Simple):List Nat:=bs (pP s)++32::fP (fileOf s)
theorem Jx{s:Simple}(ok:HQ s):simpleText s=headOf s++(fieldsOf s).flatMap wf:=by
 have hf:=l8 (n:=fileOf s) (by have:=ok.file;omega);have hc:∀x∈fieldsOf s,shownNumber x.1=fP x.1:=fun x hx=>l8 (by have:=ok.oh.code x hx;omega);unfold headOf;cases s with
 |new n l=>
  have hf:shownNumber n=fP n:=hf;show spaced (Vbptan.W "new"::([shownNumber n]++l.flatMap fun x=>[shownNumber x.1,x.2]))=(Vbptan.W "new"++32::fP n)++l.flatMap wf;rw[jm,fz,cO,sS,bq,hf, <- bw]
  congr 1
  have go:∀l:List (Nat×List Nat),(∀x∈l,shownNumber x.1=fP x.1)->(l.flatMap fun x=>[shownNumber x.1,x.2]).flatMap (fun x=>32::x)=l.flatMap wf:=by
   intro l;induction l with
   |nil=>intro _;rfl
   |cons x l ih=>
    intro h;rw[cO,fz,ih fun y hy=>h y (aG _ hy),cO]
    congr 1
    show(32::shownNumber x.1)++((32::x.2)++[])=_;rw[h x aL,bq];rfl
  exact go l hc
 |set n c v=>
  have hf:shownNumber n=fP n:=hf;have h1:shownNumber c=fP c:=hc (c,v) aL;show spaced (Vbptan.W "set"::[shownNumber n,shownNumber c,v])=(Vbptan.W "set"++32::fP n)++((32::(fP c++32::v))++[]);rw[jm,hf,h1,bq,bw]
  congr 1
  show(32::fP n)++((32::fP c)++((32::v)++[]))=_;rw[bq];rfl
 |drop n=>
  have hf:shownNumber n=fP n:=hf;show spaced (Vbptan.W "drop"::[shownNumber n])=(Vbptan.W "drop"++32::fP n)++[];rw[jm,hf,bq];show _++((32::fP n)++[])=_;rw[bq]
def K9(A:Ad):Sp:=fun vs H Q _=>∃a s,vs=[.ref a]/\gK A H a s/\HQ s/\tE (zs (simpleText s)) H Q
theorem Og{fs:List (Nat×List Nat)}(h:K1 fs)(i:Nat):((fs.take i).flatMap wf).length<=20*i:=by
 have go:∀l:List (Nat×List Nat),(∀x∈l,(wf x).length<=20)->(l.flatMap wf).length<=20*l.length:=by
  intro l;induction l with
  |nil=>intro _;exact aq _
  |cons x l ih=>
   intro h;rw[cO,au];have h1:=h x aL;have h2:=ih fun y hy=>h y (aG _ hy);show _<=20*(l.length+1);omega
 refine aP (go _ fun x hx=>?_) (by rw[b4];omega);have hm:=List.mem_of_mem_take hx;have l1:=i6 (n:=x.1) (by have:=h.code x hm;omega);have l2:=h.val x hm;show(32::(fP x.1++32::x.2)).length<=20;rw[az,au,az];omega
theorem AE(T:gQ K mg A):Fn P w K mg base ig 2 "written_simple" ["simple"] (K9 A):=T.w9.fn fun f fd F=>by
 refine F.ok iE (fun vs H Q E h=>?_) (fun cdv A' outer s H vs Q E hr h=>?_)
 ·obtain⟨a,s,rfl,_⟩:=h;rfl
 ·obtain⟨a,s,rfl,hS,ok,k⟩:=h;refine⟨_,ay (bH (i:=1) iE.nd rfl (Or.inl rfl) (bI (rF T) hr bx (ah (eB y9 (eB y9 (bY (pv 0) rfl) eK) (oz CQ rfl T.Zh PyProof.Rows.Boot.«str» (ah (bY (pv 0) rfl) aA))) aA)))
   (ay (Pa (i9 cH rfl (Mq (bY (pv 0) rfl)) (nY rfl (dN (b8 (i:=2) iE.nd rfl (Or.inl rfl)) (dN (b8 (i:=3) iE.nd rfl (Or.inl rfl)) kC)))
    (ay (xq (pv 1) (bI (rF T) hr bx (ah (zC (iY eK (iY (zB (pv 2)) (iY eK G8)))) aA)))
    (aD (xq (pv 1) (pv 3))))))
   (aD (aW (pv 1)))),?_⟩
  refine aR fun Pz pz=>?_;obtain⟨dx,d,ea,kvs,ed,hp⟩:=hS;refine pz ?_;have f3:=ok.file;have nl:=i6 (n:=fileOf s) (by omega);have vl:(bs (pP s)).length<=4:=by
   cases s with
   |new _ _=>show(bs "new").length<=4;decide +kernel
   |set _ _ _=>show(bs "set").length<=4;decide +kernel
   |drop _=>show(bs "drop").length<=4;decide +kernel
  have e1:bs ((pP s++(" " :Str))++Str.ofString (toString ((fileOf s:Nat):Int)))=headOf s:=by
   rw[fF,fF,lg];unfold headOf;rw[bw];rfl
  have l1:((pP s++(" " :Str))++Str.ofString (toString ((fileOf s:Nat):Int))).cps.size<=10000:=by
   rw[yI,e1];unfold headOf;rw[au,az];omega
  refine⟨_,rfl,a,_,dx,_,_,rfl,ea,T.eE,T.w6,rfl,_,_,rfl,rfl,?_,?_⟩
  ·rw[pU,pU];show _+1<=2 ^ 24;omega
  refine⟨_,rfl,a,_,dx,_,_,rfl,ea,T.eE,T.rC,rfl,_,rfl,l9 (by omega),_,_,rfl,rfl,?_,_,rfl,l1,?_⟩
  ·rw[pU,pU,fF,lg,au];show _+1+_<=2 ^ 24;omega
  rw[e1];intro H1 r hr' s1 h1;have ed1:=s1 _ _ ed;have U8:r≠d:=fun z=>by rw[z,ed]at hr';cases hr'
  refine⟨d,_,ed1,trivial,fun od=>?_⟩;have nad:a≠d:=ic ea ed (by intro z;cases z);refine⟨_,rfl,a,_,dx,_,_,rfl,by rw[aI nad];exact s1 _ _ ea,T.eE,T.vL,rfl,d,od,kvs,rfl,aj,?_⟩;have vS:kvs.length=(fieldsOf s).length:=bg hp;have adl:=ok.oh.len;have hl0:(headOf s).length<=12:=by unfold headOf;rw[au,az];omega
  refine wR kvs.length (fun i σ H'=>(∃v2 v3:Option V,σ=[some (.ref a),some (.ref r),v2,v3])/\(∀b o,H b=some o->b≠d->H' b=some o)/\H' d=some (.jy od (.dK kvs))/\H' r=some (.lst (zs (headOf s++((fieldsOf s).take i).flatMap wf))))
   ⟨⟨none,none,rfl⟩,fun b o e n=>by rw[aI n];exact s1 _ _ e,aj,?_⟩ (fun i σ H' hi ⟨⟨v2,v3,e0⟩,sb,hf,ht⟩=>?_) (fun σ H' ⟨⟨v2,v3,e0⟩,sb,hf,ht⟩=>?_)
  ·rw[aI U8,h1,wm,sS,bq]
  ·subst e0;refine⟨⟨hf,hi⟩,fun x xW y=>?_⟩;obtain⟨T',kk,v,hkv,rfl,hT,rfl⟩:=y;refine aR fun Pz pz=>?_;obtain⟨cv,hcv,ek,b,eb,hb⟩:=dm hp hkv;refine pz ?_;have ek:kk=kN cv.1:=ek;have eb:v=.ref b:=eb;subst ek eb;have s4:=aO (o:=.tup [kV (kN cv.1),.ref b]) hT;have SE:cv∈fieldsOf s:=bW hcv;have cd:=ok.oh.code cv SE;have vd:=ok.oh.val cv SE;have nc:=i6 (n:=cv.1) (by omega);have wl:=Og ok.oh i;have hik:i<90:=by omega
   have e2:bs (((Str.empty++(" " :Str))++Str.ofString (toString ((cv.1:Nat):Int)))++(" " :Str))=32::(fP cv.1++[32]):=by
    rw[fF,fF,fF,lg];rfl
   refine⟨T',_,rfl,lD.of aj,rfl,_,_,rfl,_,_,rfl,rfl,?_⟩;refine⟨_,rfl,.inl ⟨rfl,_,cI.of (s4 _ _ ht)⟩,_,rfl,?_,_,rfl,(cv.1:Int),rfl,l9 (by omega),_,rfl,?_,_,rfl,?_,?_,_,rfl,?_,?_⟩
   ·rw[pU];exact kH (wN (by decide +kernel))
   ·rw[pU,fF,fF,lg,au,au];show 0+1+_<=2 ^ 24;omega
   ·rw[pU,e2,az,au];show _+1+1<=2 ^ 24;omega
   ·rw[pU,e2,az,au];show _+1+1<=2 ^ 24;omega
   ·rw[yI,e2,az,au];show _+1+1<=10000;omega
   rw[e2];intro H2 q hq s5 h5;have OI:=s5 _ _ (s4 _ _ ht);refine⟨r,q,_,_,rfl,rfl,OI,h5,?_,?_⟩
   ·rw[cF,cF,au,az,au];show _+(_+1+1)<=2 ^ 24;omega
   have hbd:b≠d:=ic hb ed (by intro z;cases z);have hb2:=s5 _ _ (s4 _ _ (sb _ _ hb hbd));have nbr:b≠r:=aS hb hr';refine⟨_,rfl,.inl ⟨rfl,_,cI.of aj⟩,_,rfl,r,b,_,_,rfl,rfl,aj,by rw[aI nbr];exact hb2,?_,?_⟩
   ·rw[au,cF,cF,cF,au,az,au];show _+(_+1+1)+_<=2 ^ 24;omega
   ·rw[iX];refine⟨⟨_,_,rfl⟩,fun b' o e n=>?_,?_,?_⟩
    ·rw[aI (aS e hr')];exact s5 _ _ (s4 _ _ (sb _ _ e n))
    ·rw[aI (bP U8)];exact s5 _ _ (s4 _ _ hf)
    ·rw[aj,dO hcv,fz]
     congr 2
     show(List.map _ _++List.map _ _)++List.map _ _=List.map _ _;rw[<- aX, <- aX]
     congr 1
     rw[cO,sS,bq,bw,bw]
     congr 2
     show 32::((fP cv.1++[32])++cv.2)=32::(fP cv.1++32::cv.2);rw[bw];rfl
  ·subst e0;refine⟨⟨hf,aq _⟩,hf,_,rfl,k _ r hr' (fun b o e=>?_) ?_⟩
   ·by_cases z:b=d
    ·rw[z,aj];rw[z,ed]at e;exact e
    ·rw[aI z];exact sb b o e z
   ·rw[aI U8,ht,vS,bL,Jx ok]
end
end Gz
namespace Gz
open PySem PySem.Spec PyProof.Rows L2
open TL (fP)
open Vbptan (Simple Line Issue placed effective fileOf aimOf isVoid lastFor standing spaced shownNumber simpleText sealed check NL cut Word must)
def iz(ps:List (Pl×Line))(p:Pl)(t:Simple):List Int:=match lastFor (standing ps) p with
 |none=>0::Vbptan.ints (simpleText t)
 |some (q,.fix _ u)=>1::(q.1:Int)::(q.2:Int)::Vbptan.ints (simpleText u)
 |some (q,_)=>[2,(q.1:Int),(q.2:Int)]
def AF(S:List Issue)(p:Pl)(y:Line):List Int:=match y with
 | .simple t=>iz (placed S) p t
 |_=>if((standing (placed S)).any fun z=>z.1==p)=true then [3]else [4]
def AG(S:List Issue)(p:Pl):List Int:=0::((placed S).filter fun y=>aimOf y.2==some p).flatMap fun y=>[(y.1.1:Int),(y.1.2:Int),if((standing (placed S)).any fun z=>z.1==y.1)=true then 1 else 0]
theorem wk{s:Simple}(ok:HQ s):(simpleText s).length<=2000:=by
 rw[Jx ok,au];have h1:=Og ok.oh (fieldsOf s).length;rw[bL]at h1;have h2:=ok.oh.len;have f3:=ok.file;have nl:=i6 (n:=fileOf s) (by omega);have vl:(bs (pP s)).length<=4:=by
  cases s with
  |new _ _=>show(bs "new").length<=4;decide +kernel
  |set _ _ _=>show(bs "set").length<=4;decide +kernel
  |drop _=>show(bs "drop").length<=4;decide +kernel
 unfold headOf;rw[au,az];omega
theorem Cr(st:List (Pl×Line))(p:Pl):(dc (jI st) (gu p)).isSome=st.any fun z=>z.1==p:=by
 rw[<- iS,cR,lB,lB];constructor
 ·rintro ⟨kv,h1,h2⟩;obtain⟨x,hx,rfl⟩:=List.mem_map.mp h1;exact⟨x,List.mem_reverse.mp hx,beq_iff_eq.mpr (oR (aH h2))⟩
 ·rintro ⟨x,hx,e⟩;exact⟨(gu x.1,.bl true),List.mem_map.mpr ⟨x,List.mem_reverse.mpr hx,rfl⟩,aC (by rw[jo e])⟩
theorem sQ{S:List Issue}(ok:rM S){z:Pl×Line}(hz:z∈placed S){s:Simple}(hs:kQ z.2=some s):HQ s:=by
 obtain⟨I,hI,hz⟩:=List.mem_flatMap.mp hz;obtain⟨u,hu,eu⟩:=List.mem_map.mp hz;refine(ok.all I hI).sim z.2 ?_ s hs;rw[<- eu];exact List.fst_mem_of_mem_zipIdx hu
section
variable{P:Program}{w:World}{K:PySem.W.Frag}{mg:Str->Option Value}{base:Heap}{A:Ad}{CX:nZ}
def Cs(A:Ad):Sp:=fun vs H Q _=>∃d S q p t,vs=[.ref d,.ref q]/\oS A H d (placed S)/\rM S/\H q=some (Av p)/\(p,Line.simple t)∈placed S/\oW (iz (placed S) p t) H Q
theorem HX(T:gQ K mg A):Fn P w K mg base ig 3 "tell_simple_line" ["lines","place"] (Cs A):=T.uy.fn fun f fd F=>by
 refine F.ok jd (fun vs H Q E h=>?_) (fun cdv A' outer s H vs Q E hr h=>?_)
 ·obtain⟨d,S,q,p,t,rfl,_⟩:=h;rfl
 ·refine aR fun Pz pz=>?_;obtain⟨d,S,q,p,t,rfl,hP,ok,hq,hm,k⟩:=h;refine pz ?_;refine⟨_,ay (bH (i:=2) jd.nd rfl (Or.inl rfl) (EF (eL hr) (bI (xZ T) hr bx (ah (pv 0) aA)) (pv 1) ⟨rfl,rfl,rfl,rfl⟩))
   (ay (b7 (bz yX (pv 2) mq (bM _))
    (aD (aW (eB jY (b6 (ah aY aA)) (bI (AE T) hr bx (ah (bY (gc (eL hr) (pv 0) (pv 1) (fun _ _=>rfl)) rfl) aA))))) bC)
   (ay (bH (i:=3) jd.nd rfl (Or.inl rfl) (bY (gc (eL hr) (pv 0) (pv 2) (fun _ _=>rfl)) rfl))
   (ay (b7 (bz yX (pv 3) mq (bM _))
    (aD (aW (b6 (ah aY (ah (fJ iQ (pv 2) aY (fun _ _=>rfl)) (ah (fJ iQ (pv 2) aY (fun _ _=>rfl)) aA)))))) bC)
   (aD (aW (eB jY (b6 (ah aY (ah (fJ iQ (pv 2) aY (fun _ _=>rfl)) (ah (fJ iQ (pv 2) aY (fun _ _=>rfl)) aA)))) (bI (AE T) hr bx (ah (pv 3) aA)))))))),?_⟩
  have nd:=iJ S ok.tF;refine⟨_,rfl,d,placed S,rfl,hP,nd,ok.len,fun H1 e he s1 hD=>?_⟩;obtain⟨dk,Jo,F1⟩:=hD;have hP1:=hP.same s1;obtain⟨kvs,hkd,hp⟩:=hP1;have hq1:=s1 _ _ hq;have k:=tE.of k s1;refine⟨e,rfl,.inr ⟨_,.inl Jo⟩,_,rfl,_,fO.t (k:=gu p) Jo hq1,?_⟩;have KZ:=F1 p;unfold iz at k;cases Ql:lastFor (standing (placed S)) p with
  |none=>
   rw[Ql]at KZ k;have KZ:dc dk (gu p)=none:=KZ;rw[KZ];refine⟨_,rfl,rfl,_,rfl,cW ⟨by show 1<=sizeLine;decide,fun r hr'=>?_⟩⟩;have s2:=aO (o:=.lst [.int 0]) hr';refine aR fun Pz pz=>?_;obtain⟨a,hval,dx,va,U6,hla,lW,yr⟩:=vR hp nd hm;refine pz ?_;obtain⟨sa,rfl,hsa⟩:=yr;have WR:HQ t:=sQ ok hm rfl;refine⟨_,rfl,_,rfl,d,_,rfl,by rw[<- hval];exact fO.t (s2 _ _ hkd) (s2 _ _ hq1),a,_,dx,_,_,rfl,s2 _ _ hla,T.kh,T.oK,rfl,sa,t,rfl,hsa.same s2,WR,fun H2 b hb s3 h3=>?_⟩;refine⟨r,b,_,_,rfl,rfl,s3 _ _ aj,h3,?_,fun u hu=>k _ u ((s2.trans s3).free hu) (s2.trans (s3.trans (aO hu))) ?_⟩
   ·rw[cF];have:=wk WR;show 1+_<=2 ^ 24;omega
   ·rw[aj,aV,oj];rfl
  |some z=>
   rw[Ql]at KZ k;obtain⟨q',ZQ,hq2⟩:=KZ;rw[ZQ];obtain⟨zm,za⟩:=nJ Ql;have XU:z∈placed S:=(eS _).subset zm;refine aR fun Pz pz=>?_;obtain⟨a2,NO,Ec,va2,Zd,T9,WM,Jp⟩:=vR hp nd XU;refine pz ?_;refine⟨_,rfl,rfl,_,rfl,cg ?_⟩;refine⟨_,rfl,_,rfl,d,_,rfl,by rw[<- NO];exact fO.t hkd hq2,a2,_,Ec,_,_,rfl,T9,T.kh,T.oK,rfl,?_⟩;obtain⟨zp,zl⟩:=z;cases zl with
   |simple _=>cases za
   |void pp=>
    obtain rfl:Zd=.dY:=Jp;refine⟨_,rfl,rfl,_,rfl,cW ?_⟩;exact⟨_,rfl,q',_,_,_,rfl,rfl,lD.of hq2,cB (j:=0) rfl,_,rfl,q',_,_,_,rfl,rfl,lD.of hq2,cB (j:=1) rfl,by show 3<=sizeLine;decide,fun u hu=>k _ u hu (aO hu) aj⟩
   |fix pp u=>
    obtain⟨sa,rfl,hsa⟩:=Jp;have WR:HQ u:=sQ ok XU rfl;refine⟨_,rfl,rfl,_,rfl,cg ?_⟩;refine⟨_,rfl,q',_,_,_,rfl,rfl,lD.of hq2,cB (j:=0) rfl,_,rfl,q',_,_,_,rfl,rfl,lD.of hq2,cB (j:=1) rfl,by show 3<=sizeLine;decide,fun r hr'=>?_⟩;have s2:=aO (o:=.lst [.int 1,.int (zp.1:Nat),.int (zp.2:Nat)]) hr';refine⟨_,rfl,sa,u,rfl,hsa.same s2,WR,fun H2 b hb s3 h3=>?_⟩;refine⟨r,b,_,_,rfl,rfl,s3 _ _ aj,h3,?_,fun u hu=>k _ u ((s2.trans s3).free hu) (s2.trans (s3.trans (aO hu))) ?_⟩
    ·rw[cF];have:=wk WR;show 3+_<=2 ^ 24;omega
    ·rw[aj,aV,aV,aV,oj];rfl
def Qv(A:Ad):Sp:=fun vs H Q _=>∃l S q p y,vs=[.ref l,.ref q]/\dF A H l S/\rM S/\H q=some (Av p)/\(p,y)∈placed S/\oW (AF S p y) H Q
theorem Oh(T:gQ K mg A):Fn P w K mg base ig 4 "tell_line" ["issues","place"] (Qv A):=T.FG.fn fun f fd F=>by
 refine F.ok xQ (fun vs H Q E h=>?_) (fun cdv A' outer s H vs Q E hr h=>?_)
 ·obtain⟨l,S,q,p,y,rfl,_⟩:=h;rfl
 ·refine aR fun Pz pz=>?_;obtain⟨l,S,q,p,y,rfl,hI,ok,hq,hm,k⟩:=h;refine pz ?_;refine⟨_,ay (bH (i:=2) xQ.nd rfl (Or.inl rfl) (bI (sJ T) hr bx (ah (pv 0) aA)))
   (ay (b7 (bz yX (bY (gc (eL hr) (pv 2) (pv 1) (fun _ _=>rfl)) rfl) mq (bM _)) (aD (aW (bI (HX T) hr bx (ah (pv 2) (ah (pv 1) aA))))) bC)
   (aD (aW (uR (qx (C0 (eL hr) (pv 1) (bI (nI T) hr bx (ah (pv 2) aA)))) (b6 (ah aY aA)) (b6 (ah aY aA)))))),?_⟩
  have nd:=iJ S ok.tF;refine⟨_,rfl,H,l,S,rfl,bF.refl _,hI,nd,ok.len,fun H1 d kvs hd s1 hkd hp=>?_⟩;have hp1:Paired (Au A H1) kvs (placed S):=bX (fun _ _ q=>q.same s1) hp;have hq1:=s1 _ _ hq;refine aR fun Pz pz=>?_;obtain⟨a,hval,dx,va,U6,hla,lW,yr⟩:=vR hp1 nd hm;refine pz ?_;refine⟨_,rfl,_,rfl,d,_,rfl,by rw[<- hval];exact fO.t hkd hq1,a,_,dx,_,_,rfl,hla,T.kh,T.z0,rfl,rfl,_,rfl,?_⟩;have k:=tE.of k s1;have other:(∃ta,va=.ref ta)->AF S p y=(if((standing (placed S)).any fun z=>z.1==p)=true then [3]else [4])->
    (if(decide (va=V.dY))=true then(sW (lF (Cs A) [] E0 (cE (cT 2) (cE (cT 1) fW)))) {nx:=(sW (Yk (tB (Sh (cT 1) (lF (uC A) [] E0 (cE (cT 2) fW)))) (Eo (cE (tC (.int 3)) fW)) (Eo (cE (tC (.int 4)) fW)))) {nx:=fun _ H'=>Q .dY H',rt:=Q},rt:=Q} [some (.ref l),some (.ref q),some (.ref d)] H1 else
     (sW (Yk (tB (Sh (cT 1) (lF (uC A) [] E0 (cE (cT 2) fW)))) (Eo (cE (tC (.int 3)) fW)) (Eo (cE (tC (.int 4)) fW)))) {nx:=fun _ H'=>Q .dY H',rt:=Q} [some (.ref l),some (.ref q),some (.ref d)] H1):=fun⟨ta,ZR⟩ ea=>by
   rw[ZR];refine cg ?_;rw[ea]at k;refine⟨_,rfl,_,rfl,d,placed S,rfl,⟨kvs,hkd,hp1⟩,nd,ok.len,fun H2 e he s2 h2=>?_⟩;have k:=tE.of k s2;refine⟨e,_,rfl,fO.t (k:=gu p) h2 (s2 _ _ hq1),_,rfl,?_⟩;rw[Cr];refine gm (fun c=>?_) (fun c=>?_)
   ·rw[aB c]at k;exact⟨by show 1<=sizeLine;decide,fun u hu=>k _ u hu (aO hu) aj⟩
   ·rw[ao c]at k;exact⟨by show 1<=sizeLine;decide,fun u hu=>k _ u hu (aO hu) aj⟩
  cases y with
  |simple t=>
   obtain rfl:va=.dY:=lW;exact cW ⟨_,rfl,_,rfl,d,S,q,p,t,rfl,⟨kvs,hkd,hp1⟩,ok,hq1,hm,k⟩
  |fix pp t=>
   obtain⟨ta,e,_⟩:=lW;exact other ⟨ta,e⟩ rfl
  |void pp=>
   obtain⟨ta,e,_⟩:=lW;exact other ⟨ta,e⟩ rfl
def Qw(A:Ad):Sp:=fun vs H Q _=>∃l S q p,vs=[.ref l,.ref q]/\dF A H l S/\rM S/\H q=some (Av p)/\oW (AG S p) H Q
theorem Oi(T:gQ K mg A):Fn P w K mg base ig 2 "tell_aims" ["issues","aimed"] (Qw A):=T.FH.fn fun f fd F=>by
 refine F.ok jj (fun vs H Q E h=>?_) (fun cdv A' outer s H vs Q E hr h=>?_)
 ·obtain⟨l,S,q,p,rfl,_⟩:=h;rfl
 ·refine aR fun Pz pz=>?_;obtain⟨l,S,q,p,rfl,hI,ok,hq,k⟩:=h;refine pz ?_;refine⟨_,ay (bH (i:=2) jj.nd rfl (Or.inl rfl) (bI (sJ T) hr bx (ah (pv 0) aA)))
   (ay (bH (i:=3) jj.nd rfl (Or.inl rfl) (bI (nI T) hr bx (ah (pv 2) aA)))
   (ay (bH (i:=4) jj.nd rfl (Or.inl rfl) (b6 (ah aY aA)))
   (ay (i9 cH rfl (BX (pv 2)) (nY rfl (dN (b8 (i:=5) jj.nd rfl (Or.inl rfl)) (dN (b8 (i:=6) jj.nd rfl (Or.inl rfl)) kC)))
    (aD (b7 (bz (DC hr.units) (bY (pv 6) rfl) (pv 1) (bM _))
     (aD (xq (pv 4) (b6 (ah (fJ iQ (pv 5) aY (fun _ _=>rfl)) (ah (fJ iQ (pv 5) aY (fun _ _=>rfl)) (ah (uR (qx (C0 (eL hr) (pv 5) (pv 3))) aY aY) aA)))))) bC)))
   (aD (aW (pv 4)))))),?_⟩
  have nd:=iJ S ok.tF;refine⟨_,rfl,H,l,S,rfl,bF.refl _,hI,nd,ok.len,fun H1 d kvs hd s1 hkd hp=>?_⟩;refine⟨_,rfl,d,placed S,rfl,⟨kvs,hkd,bX (fun _ _ q=>q.same s1) hp⟩,nd,ok.len,fun H2 e he s2 h2=>⟨by show 1<=sizeLine;decide,fun r hr'=>?_⟩⟩;have s3:=aO (o:=.lst [.int 0]) hr';have vS:kvs.length=(placed S).length:=bg hp;have hd2:=s2 _ _ hkd;have ZF:e≠d:=fun z=>by rw[z,hkd]at he;cases he
  have U8:r≠d:=fun z=>by rw[z,hd2]at hr';cases hr'
  have nre:r≠e:=fun z=>by rw[z,h2]at hr';cases hr'
  have hrH:H r=none:=(s1.trans s2).free hr';refine⟨_,rfl,d,kvs,rfl,s3 _ _ hd2,fun o=>?_⟩;have NK:=ok.len;unfold AG at k;generalize hps:placed S=ps at *;generalize hst:standing ps=st at *;unfold TY at nd;rw[hps]at nd;refine wR ps.length (fun i σ H'=>(∃(v5 v6:Option V),σ=[some (.ref l),some (.ref q),some (.ref d),some (.ref e),some (.ref r),v5,v6])/\(∀b ob,H2 b=some ob->b≠d->H' b=some ob)/\H' d=some (.jy o (.dT kvs))/\∃out:List Int,H' r=some (.lst (out.map V.int))/\out.length<=1+3*i/\
    out=0::((ps.take i).filter fun y=>aimOf y.2==some p).flatMap fun y=>[(y.1.1:Int),(y.1.2:Int),if(st.any fun z=>z.1==y.1)=true then 1 else 0])
   ⟨⟨none,none,rfl⟩,fun b ob eb n=>by rw[aI n];exact s3 _ _ eb,aj,[0],by rw[aI U8];exact aj,aq _,rfl⟩ (fun i σ H' hi ⟨⟨v5,v6,e0⟩,sb,hf,out,h4,h5,h6⟩=>?_) (fun σ H' ⟨⟨v5,v6,e0⟩,sb,hf,out,h4,h5,h6⟩=>?_)
  ·subst e0;refine⟨⟨hf,by rw[vS];exact hi⟩,fun x xW y=>?_⟩;refine aR fun Pz pz=>?_;obtain⟨T',key,v,qq,hkv,rfl,hT,hqq,rfl⟩:=y;refine pz ?_;have Ly:ps[i]? =some ps[i]:=aM hi;generalize ps[i]=y at Ly;refine aR fun Pz pz=>?_;obtain⟨a,F0,hval,dx,va,U6,hla,lW,yr⟩:=DQ hp nd Ly;refine pz ?_;rw[F0]at hkv;cases hkv;have s4:=aO (o:=.tup [.ref qq,.ref a]) hT;have ZS:∀b ob,H b=some ob->upd H' T' (.tup [.ref qq,.ref a]) b=some ob:=fun b ob eb=>s4 _ _ (sb _ _ ((s1.trans s2) _ _ eb) (aS eb hd));have step:((ps.take (i+1)).filter fun y=>aimOf y.2==some p)=((ps.take i).filter fun y=>aimOf y.2==some p)++if(aimOf y.2==some p)=true then [y]else []:=by
    rw[dO Ly,fH,cD,g7]
   have Wg:=s4 _ _ h4;have hf':=s4 _ _ hf;have Ul:upd H' T' (.tup [.ref qq,.ref a]) qq=some (Av y.1):=s4 _ _ hqq;refine⟨T',_,rfl,lD.of aj,rfl,_,_,rfl,_,_,rfl,rfl,?_⟩;have dkq:DB K (upd H' T' (.tup [.ref qq,.ref a])) (.ref q) (.tup [(p.1:Int),(p.2:Int)]):=⟨q,rfl,lD.of (ZS _ _ hq)⟩
   obtain⟨dk,ZP,Jo⟩:∃dk:Dk,DB K (upd H' T' (.tup [.ref qq,.ref a])) va dk/\decide (dk=.tup [(p.1:Int),(p.2:Int)])=(aimOf y.2==some p):=by
    cases ha:aimOf y.2 with
    |none=>
     rw[ha]at lW;exact⟨.dY,lW,by rw[aK (by intro z;cases z)];rfl⟩
    |some pp=>
     rw[ha]at lW;obtain⟨ta,ZR,T6⟩:=lW;refine⟨.tup [(pp.1:Int),(pp.2:Int)],⟨ta,ZR,lD.of (ZS _ _ T6)⟩,?_⟩;rw[cR,aZ,Lp];constructor
     ·intro z;have z:=Dk.tup.inj z;injection z with z1 z2
      injection z2 with z2;rw[Prod.ext (Int.ofNat_inj.mp z1) (Int.ofNat_inj.mp z2)]
     ·intro z;rw[aQ z]
   refine⟨_,rfl,a,_,dx,_,_,rfl,ZS _ _ hla,T.kh,T.z0,rfl,_,rfl,dk,_,ZP,dkq,_,rfl,?_⟩;rw[Jo];refine gm (fun c=>?_) (fun c=>?_)
   ·refine⟨_,rfl,.inl ⟨rfl,_,cI.of Wg⟩,_,rfl,qq,_,_,_,rfl,rfl,lD.of Ul,cB (j:=0) rfl,_,rfl,qq,_,_,_,rfl,rfl,lD.of Ul,cB (j:=1) rfl,_,rfl,_,rfl,e,_,rfl,fO.t (k:=gu y.1) (s4 _ _ (sb _ _ h2 ZF)) Ul,_,rfl,?_⟩;rw[Cr];have fin:∀g:Int,g=(if(st.any fun z=>z.1==y.1)=true then 1 else 0)->([V.int (y.1.1:Nat),V.int (y.1.2:Nat),V.int g]).length<=sizeLine/\∀b,upd H' T' (.tup [.ref qq,.ref a]) b=none->yy (.ref r) [.ref b] (upd (upd H' T' (.tup [.ref qq,.ref a])) b (.lst [.int (y.1.1:Nat),.int (y.1.2:Nat),.int g])) (fun _ H1=>(∃(v5 v6:Option V),([some (.ref l),some (.ref q),some (.ref d),some (.ref e),some (.ref r),some (.ref qq),some (.ref a)]:L2.St)=[some (.ref l),some (.ref q),some (.ref d),some (.ref e),some (.ref r),v5,v6])/\(∀b ob,H2 b=some ob->b≠d->H1 b=some ob)/\H1 d=some (.jy o (.dT kvs))/\∃out:List Int,H1 r=some (.lst (out.map V.int))/\out.length<=1+3*(i+1)/\out=0::((ps.take (i+1)).filter fun y=>aimOf y.2==some p).flatMap fun y=>[(y.1.1:Int),(y.1.2:Int),if(st.any fun z=>z.1==y.1)=true then 1 else 0]):=fun g hg=>by
     refine⟨by show 3<=sizeLine;decide,fun b hb=>?_⟩;have s5:=aO (o:=.lst [.int (y.1.1:Nat),.int (y.1.2:Nat),.int g]) hb;refine⟨r,b,_,_,rfl,rfl,s5 _ _ Wg,aj,by rw[ai];show _+3<=2 ^ 24;omega,⟨_,_,rfl⟩,fun b' ob eb n=>?_,?_,out++[(y.1.1:Int),(y.1.2:Int),g],?_,?_,?_⟩
     ·rw[aI (fun z=>by rw[z,hr']at eb;cases eb)];exact s5 _ _ (s4 _ _ (sb _ _ eb n))
     ·rw[aI (bP U8)];exact s5 _ _ hf'
     ·rw[aj,aX];rfl
     ·rw[au];show _+3<=_;omega
     ·rw[h6,step,aB c,fz,hg];rfl
    refine gm (fun c2=>?_) (fun c2=>?_)
    ·exact fin 1 (by rw[aB c2])
    ·exact fin 0 (by rw[ao c2])
   ·refine⟨⟨_,_,rfl⟩,fun b ob eb n=>s4 _ _ (sb _ _ eb n),hf',out,Wg,by omega,?_⟩;rw[h6,step,ao c,bq]
  ·subst e0;refine⟨⟨hf,by rw[vS];exact aq _⟩,_,rfl,k H' r hrH (fun b ob eb=>sb _ _ ((s1.trans s2) _ _ eb) (aS eb hd)) ?_⟩;rw[h4,h6,bL]
end
end Gz
namespace Gz
open PySem PySem.Spec PyProof.Rows L2
open TL (fP)
open Vbptan (Simple Line Issue spaced shownNumber simpleText sealed check NL cut Word must)
theorem AH{e n:Nat} :∀{f k:Nat} {ws:List Word} {x:List Line×List Word},gE e n f k ws=.ok x->x.1.length<=41-k
 |0,_,_,_,h=>by cases h
 |f+1,k,ws,x,h=>by
  unfold gE at h;split at h
  ·injection h with h;rw[<- h];exact bu _
  ·split at h
   ·injection h with h;rw[<- h];exact bu _
   ·split at h
    ·injection h with h;rw[<- h];exact bu _
    ·rename_i hk _ _;obtain⟨a,ha,h⟩:=bA h;obtain⟨b,hb,h⟩:=bA h;obtain⟨c,hc,h⟩:=bA h;injection h with h
     have:=AH hc;rw[<- h];show c.1.length+1<=_;omega
theorem AI{t:List Nat}{n:Nat}{ls:List Line}(h:n8 t n=.ok ls):ls.length<=40:=by
 obtain⟨l,hl,h⟩:=bA h;split at h
 ·injection h with h;rw[<- h];exact AH hl
 ·cases h
def jJ(n d:Nat):List Nat:=Vbptan.W "gazette "++(fP n++(Vbptan.W " of "++(fP d++[10])))
def uH(c k:Nat):List Nat:=Vbptan.W "close "++(fP c++(32::fP k))
theorem AJ(t:List Nat):check t<=9972:=by
 rw[FQ];have:=yP (DM 1 t) (show 0<9973 by decide);omega
theorem Ct{n d c:Nat}{b:List Nat}(hn:n<=99)(hd:d<=100000)(hc:c<=40):sealed n d c b=(jJ n d++b)++uH c (check (jJ n d++b)):=by
 have e1:spaced [Vbptan.W "gazette",shownNumber n,Vbptan.W "of",shownNumber d]++NL++b=jJ n d++b:=by
  rw[jm,l8 (by omega),l8 hd];unfold jJ;show(Vbptan.W "gazette"++((32::fP n)++((32::Vbptan.W "of")++((32::fP d)++[]))))++[10]++b=_;have w1:Vbptan.W "gazette "=Vbptan.W "gazette"++[32]:=by decide +kernel
  have w2:Vbptan.W " of "=32::(Vbptan.W "of"++[32]):=by decide +kernel
  rw[w1,w2];simp only[bw,A7,List.nil_append,bq]
 have e2:∀k,k<=9972->spaced [Vbptan.W "close",shownNumber c,shownNumber k]=uH c k:=fun k hk=>by
  rw[jm,l8 (by omega),l8 (by omega)];unfold uH;show Vbptan.W "close"++((32::fP c)++((32::fP k)++[]))=_;have w1:Vbptan.W "close "=Vbptan.W "close"++[32]:=by decide +kernel
  rw[w1];simp only[bw,A7,List.nil_append,bq]
 unfold Vbptan.sealed;show(spaced [Vbptan.W "gazette",shownNumber n,Vbptan.W "of",shownNumber d]++NL++b)++spaced [Vbptan.W "close",shownNumber c,shownNumber (check (spaced [Vbptan.W "gazette",shownNumber n,Vbptan.W "of",shownNumber d]++NL++b))]=_;rw[e1,e2 _ (AJ _)]
section
variable{P:Program}{w:World}{K:PySem.W.Frag}{mg:Str->Option Value}{base:Heap}{A:Ad}{CX:nZ}
def Oj(A:Ad):Sp:=fun vs H Q E=>∃a t,∃n d:Nat,vs=[.int (n:Nat),.int (d:Nat),.ref a]/\H a=some (.lst (zs t))/\t.length<=2000/\n<=99/\d<=100000/\
 Ed (n8 t n) (fun ls=>tE (zs (sealed n d ls.length t)) H Q) (fun p=>∀d H',bF H H'->H' d=some (.xd [("place",.int (p:Nat))])->E (.ref A.eV) (some d) H')
theorem La(T:gQ K mg A):Fn P w K mg base (B8 P w) 9 "written_issue" ["number","day","lines_text"] (Oj A):=T.yp.fn fun f fd F=>by
 refine F.Kw i0 (fun vs H Q E h=>?_) (fun cdv A' outer s H vs Q E hr h=>?_)
 ·obtain⟨a,t,n,d,rfl,_⟩:=h;rfl
 ·refine aR fun Pz pz=>?_;obtain⟨a,t,n,d,rfl,ha,hl,hn,hd,k⟩:=h;refine pz ?_;refine⟨_,ay (bH (i:=3) i0.nd rfl (Or.inl rfl) (fX T.bn (bI (NH T) hr (eY cS) (ah (pv 2) (ah (pv 0) aA)))))
   (ay (bH (i:=4) i0.nd rfl (Or.inl rfl) (eB jY (bI (rF T) hr bx (ah (zC (iY eK (iY (zB (pv 0)) (iY eK (iY (zB (pv 1)) (iY eK G8)))))) aA)) (pv 2)))
   (ay (bH (i:=5) i0.nd rfl (Or.inl rfl) (bI (FT T) hr bx (ah (pv 4) aA)))
   (aD (aW (eB jY (pv 4) (bI (rF T) hr bx (ah (zC (iY eK (iY (zB (pv 3)) (iY eK (iY (zB (pv 5)) G8))))) aA))))))),?_⟩
  refine⟨_,rfl,_,rfl,a,t,n,rfl,ha,hl,?_⟩;cases hal:n8 t n with
  |error p=>
   rw[hal]at k;exact k
  |ok ls=>
   rw[hal]at k;have hls:=AI hal;have k:tE (zs (sealed n d ls.length t)) H Q:=k;rw[Ct hn hd hls]at k;rintro H1 v s1 ⟨as,hv,hvl⟩;have ll:(as.map V.ref).length=ls.length:=by rw[ai];exact hvl
   refine⟨v,_,rfl,.inl (cI.of hv),?_⟩;rw[ll];have nn:=i6 (n:=n) (by omega);have ZE:=i6 (n:=d) (by omega);have e1:bs (((((Str.empty++("gazette " :Str))++Str.ofString (toString ((n:Nat):Int)))++(" of " :Str))++Str.ofString (toString ((d:Nat):Int)))++("\n" :Str))=jJ n d:=by
    rw[fF,fF,fF,fF,fF,lg,lg];unfold jJ;show(((Vbptan.W "gazette "++fP n)++Vbptan.W " of ")++fP d)++[10]=_;simp only[bw]
   have hb8:(Vbptan.W "gazette ").length=8:=by decide +kernel
   have hb4:(Vbptan.W " of ").length=4:=by decide +kernel
   have hh:(jJ n d).length<=30:=by
    unfold jJ;rw[au,au,au,au,hb8,hb4];show 8+(_+(4+(_+1)))<=30;omega
   have small:∀(x:Str),(bs x).length<=100->x.length<=sizeLine:=fun x hx=>by rw[pU];exact aP hx (by decide)
   have g1:(bs (Str.empty++("gazette " :Str))).length=8:=by decide +kernel
   have g2:(bs ((Str.empty++("gazette " :Str))++Str.ofString (toString ((n:Nat):Int)))).length<=14:=by rw[fF,lg,au,g1];omega
   have g3:(bs (((Str.empty++("gazette " :Str))++Str.ofString (toString ((n:Nat):Int)))++(" of " :Str))).length<=18:=by
    rw[fF,au,show(bs (" of " :Str)).length=4 by decide +kernel];omega
   have g4:(bs ((((Str.empty++("gazette " :Str))++Str.ofString (toString ((n:Nat):Int)))++(" of " :Str))++Str.ofString (toString ((d:Nat):Int)))).length<=24:=by
    rw[fF,lg,au];omega
   refine⟨_,rfl,small _ (by rw[g1];decide),_,rfl,_,rfl,l9 (by omega),_,rfl,small _ (by omega),_,rfl,small _ (by omega),_,rfl,_,rfl,l9 (by omega),_,rfl,small _ (by omega),_,rfl,small _ (by rw[e1];omega),small _ (by rw[e1];omega),_,rfl,?_,?_⟩
   ·rw[yI,e1];omega
   rw[e1];intro H2 b hb s2 h2;have ha2:=s2 _ _ (s1 _ _ ha);refine⟨_,rfl,b,a,_,_,rfl,rfl,h2,ha2,by rw[cF,cF];show _<=2 ^ 24;omega,fun c hc=>?_⟩;have s3:=aO (o:=.lst (zs (jJ n d)++zs t)) hc;have ZT:zs (jJ n d)++zs t=zs (jJ n d++t):=by show List.map _ _++List.map _ _=List.map _ _;rw[aX]
   have hc3:upd H2 c (.lst (zs (jJ n d)++zs t)) c=some (.lst (zs (jJ n d++t))):=by rw[aj,ZT]
   refine⟨_,rfl,c,jJ n d++t,rfl,cI.of hc3,by rw[au];omega,fun H4 s4=>?_⟩;have hc4:=s4 _ _ hc3;have kn:=AJ (jJ n d++t);generalize check (jJ n d++t)=ck at *;have nc:=i6 (n:=ls.length) (by omega);have nk:=i6 (n:=ck) (by omega);have e2:bs ((((Str.empty++("close " :Str))++Str.ofString (toString ((ls.length:Nat):Int)))++(" " :Str))++Str.ofString (toString ((ck:Nat):Int)))=uH ls.length ck:=by
    rw[fF,fF,fF,fF,lg,lg];unfold uH;show((Vbptan.W "close "++fP ls.length)++[32])++fP ck=_;simp only[bw,A7,List.nil_append]
   have f1:(bs (Str.empty++("close " :Str))).length=6:=by decide +kernel
   have f2:(bs ((Str.empty++("close " :Str))++Str.ofString (toString ((ls.length:Nat):Int)))).length<=12:=by rw[fF,lg,au,f1];omega
   have f3:(bs (((Str.empty++("close " :Str))++Str.ofString (toString ((ls.length:Nat):Int)))++(" " :Str))).length<=13:=by
    rw[fF,au,show(bs (" " :Str)).length=1 by decide +kernel];omega
   have f4:(uH ls.length ck).length<=20:=by
    rw[<- e2,fF,lg,au];omega
   refine⟨_,rfl,_,rfl,small _ (by rw[f1];decide),_,rfl,_,rfl,l9 (by omega),_,rfl,small _ (by omega),_,rfl,small _ (by omega),_,rfl,_,rfl,l9 (by omega),_,rfl,small _ (by rw[e2];omega),small _ (by rw[e2];omega),_,rfl,?_,?_⟩
   ·rw[yI,e2];omega
   rw[e2];intro H5 g hg s5 h5;have sA:=s1.trans (s2.trans (s3.trans (s4.trans s5)));refine⟨c,g,_,_,rfl,rfl,s5 _ _ hc4,h5,by rw[cF,cF,au];show _<=2 ^ 24;omega,fun u hu=>k _ u (sA.free hu) (sA.trans (aO hu)) ?_⟩;rw[aj];show some (HO.lst (List.map _ _++List.map _ _))=some (HO.lst (List.map _ _));rw[<- aX]
end
end Gz
namespace Gz
open PySem PySem.Spec PyProof.Rows L2
open Vbptan (Simple Line Issue issueAt putIssue)
def Um(A:Ad)(G:Hp)(o:Option V):Option Issue->Prop
 |none=>o=none
 |some I=>∃a,o=some (.ref a)/\iH A G a I
structure DZ (A:Ad) (H:Hp) (k:Addr) (S:List Issue) (kvs:List (Key×V)):Prop where
 at_:H k=some (.dK kvs)
 keys:rP kvs
 val:∀n,Um A (wA H k) (dc kvs (kN n)) (issueAt S n)
def dW(A:Ad)(H:Hp)(k:Addr)(S:List Issue):Prop:=rM S/\∃kvs,DZ A H k S kvs
theorem Um.same{A:Ad}{G G':Hp}{o:Option V} :∀{r:Option Issue},Um A G o r->bF G G'->Um A G' o r
 |none,h,_=>h
 |some I,⟨a,e,h⟩,s=>⟨a,e,h.same s⟩
theorem yJ{H H':Hp}{k:Addr}(s:SameBut k H H'):bF (wA H k) (wA H' k):=fun b o e=>by
 by_cases z:b=k
 ·rw[z,kJ]at e;cases e
 ·rw[ja z]at e ⊢;exact s b o e z
theorem AK{H:Hp}{k:Addr} :bF (wA H k) H:=fun b o e=>by
 by_cases z:b=k
 ·rw[z,kJ]at e;cases e
 ·rw[ja z]at e;exact e
theorem dW.same{A:Ad}{H H':Hp}{k:Addr}{S:List Issue}(h:dW A H k S)(s:bF H H'):dW A H' k S:=by
 obtain⟨ok,kvs,K⟩:=h;exact⟨ok,kvs,s _ _ K.at_,K.keys,fun n=>(K.val n).same (yJ s.but)⟩
theorem Um.some{A:Ad}{G:Hp}{o:Option V} :∀{r:Option Issue},Um A G o r->o.isSome=r.isSome
 |none,h=>by have h:o=none:=h;rw[h];rfl
 | .some I,⟨a,e,_⟩=>by rw[e];rfl
theorem rR{S:List Issue}{n:Nat}{I:Issue}(h:issueAt S n=some I):I∈S/\I.num=n:=by
 unfold Vbptan.issueAt at h;have h2:=CJ h;exact⟨fB h,jo h2⟩
theorem HY{S:List Issue}(hs:S.Pairwise fun a b=>a.num<b.num){I:Issue}(h:I∈S):issueAt S I.num=some I:=by
 unfold Vbptan.issueAt;induction S with
 |nil=>cases h
 |cons x l ih=>
  rw[dg]at hs;rw[dQ];rcases List.mem_cons.mp h with rfl|h
  ·rw[A4]
  ·rw[show(x.num==I.num)=false from beq_eq_false_iff_ne.mpr (fun z=>by have:=hs.1 I h;omega)];exact ih hs.2 h
theorem pV{S:List Issue}{n:Nat} :(issueAt S n).isSome=true↔n∈S.map (·.num):=by
 unfold Vbptan.issueAt;rw[List.find?_isSome];constructor
 ·rintro ⟨x,hx,e⟩;exact List.mem_map.mpr ⟨x,hx,jo e⟩
 ·intro h;obtain⟨x,hx,e⟩:=List.mem_map.mp h;exact⟨x,hx,beq_iff_eq.mpr e⟩
theorem Jy{S:List Issue}(h:S.Pairwise fun a b=>a.num<b.num):(S.map (·.num)).Pairwise (· < ·):=by rw[cY];exact h
theorem pW{A:Ad}{H:Hp}{k:Addr}{S:List Issue}{kvs:List (Key×V)}(ok:rM S)(KK:DZ A H k S kvs):∃ns:List Nat,kvs.map (·.1)=ns.map kN/\ns.Nodup/\ns.Perm (S.map (·.num))/\kvs.length=S.length:=by
 obtain⟨ns,e,nd⟩:=xo KK.keys;have perm:=CH (L:=S.map (·.num)) e nd (Jy ok.tF) fun n=>by rw[(KK.val n).some];exact pV
 refine⟨ns,e,nd,perm,?_⟩;have:(kvs.map (·.1)).length=(ns.map kN).length:=by rw[e]
 rw[ai,ai,perm.length_eq,ai]at this;exact this
def Ef(A:Ad)(k:Addr)(H:Hp)(S':List Issue)(Uo:List Int)(Q:VK):Prop:=∀H' l,SameBut k H H'->H l=none->H' l=some (.lst (Uo.map V.int))->dW A H' k S'->Q (.ref l) H'
theorem Ef.new{A:Ad}{k:Addr}{H:Hp}{S:List Issue}{Uo:List Int}{Q:VK}(h:Ef A k H S Uo Q)(K:dW A H k S):oW Uo H Q:=fun H' l hl s e=>h H' l s.but hl e (K.same s)
theorem Ef.of{A:Ad}{k:Addr}{H H1:Hp}{S:List Issue}{Uo:List Int}{Q:VK}(h:Ef A k H S Uo Q)(s:bF H H1):Ef A k H1 S Uo Q:=fun H' l sb hl e K=>h H' l (s.but.trans sb) (s.free hl) e K
section
variable{P:Program}{w:World}{K:PySem.W.Frag}{mg:Str->Option Value}{base:Heap}{A:Ad}{CX:nZ}
def D0(A:Ad):Sp:=fun vs H Q _=>∃k S,vs=[.ref k]/\dW A H k S/\∀H' l,H l=none->bF H H'->dF A H' l S->Q (.ref l) H'
theorem mY(T:gQ K mg A):Fn P w K mg base ig 1 "known_issues" ["known"] (D0 A):=T.Ah.fn fun f fd F=>by
 refine F.ok mP (fun vs H Q E h=>?_) (fun cdv A' outer s H vs Q E hr h=>?_)
 ·obtain⟨k,S,rfl,_⟩:=h;rfl
 ·refine aR fun Pz pz=>?_;obtain⟨k,S,rfl,hK,c⟩:=h;refine pz ?_;refine⟨_,aD (aW (oB (own:=[("number",1)]) rfl mP.nd (fG (eU (pC rfl) rfl T.bn.vq PyProof.Rows.Boot.«sorted» (ah (pv 0) aA))) (fM (by kernel_rfl)) (fun _ _ _ _ _=>b8 (i:=1) mP.nd rfl (Or.inl rfl)) (fun _ _ _ _ _=>lU)
   (fun _ _ _ _ _=>gc (eL hr) (pv 0) (pv 1) (fun _ _=>rfl)))),?_⟩
  obtain⟨ok,kvs,KK⟩:=hK;refine aR fun Pz pz=>?_;obtain⟨ns,en,nd,perm,vS⟩:=pW ok KK;refine pz ?_;refine⟨_,rfl,k,kvs,qt ns,rfl,.inl KK.at_,by rw[en,sN],fun ns' p hp1 hp2 hp=>?_⟩;rw[oU perm (Jy ok.tF) hp1 hp2,ua];have s1:=aO (o:=.lst (zs (S.map (·.num)))) hp;refine⟨p,rfl,⟨_,cI.of aj⟩,fun D hD=>?_⟩;refine jA (K:=K) (a:=p) (xs:=zs (S.map (·.num))) (fun i H'=>∃as:List Addr,(bF (upd H p (.lst (zs (S.map (·.num))))) H'/\H' D=some (.lst (as.map V.ref)))/\as.length<=i/\Paired (iH A (wA H k)) as (S.take i)) ⟨[],⟨aO hD,aj⟩,aq _,.nil⟩ (fun i H' _ ⟨_,⟨z,_⟩,_⟩=>cI.of (z _ _ aj)) (fun i x H' hi ⟨as,⟨z1,z2⟩,z3,z4⟩=>?_) (fun H' ⟨as,⟨z1,z2⟩,z3,z4⟩=>?_)
  ·obtain⟨n,hn,rfl⟩:=xE hi;rw[bf]at hn;obtain⟨I,hI,rfl⟩:=Option.map_eq_some_iff.mp hn;have hil:i<S.length:=(List.getElem?_eq_some_iff.mp hI).1;have q:=KK.val I.num;rw[HY ok.tF (bW hI)]at q;obtain⟨a,ea,hA⟩:=q;refine⟨rfl,_,rfl,_,rfl,k,_,rfl,by rw[<- ea];exact fO.k (k:=kN I.num) (z1 _ _ (s1 _ _ KK.at_)),as.map V.ref,z2,?_,as++[a],⟨fun b o e=>by rw[aI (aS e hD)];exact z1 b o e,?_⟩,?_,?_⟩
   ·rw[ai];have:=ok.few;show _<2 ^ 24;omega
   ·rw[aj,aX];rfl
   ·rw[au];show as.length+1<=_;omega
   ·rw[dO hI];exact iO z4 hA
  ·rw[cF,ai,bL]at z4;have sA:=s1.trans z1;exact c H' D (s1.free hD) sA ⟨as,z2,bX (fun _ _ q=>q.same (AK.trans sA)) z4⟩
def jK(S:List Issue)(I:Issue):Bool:=S.all fun y=>if y.num<I.num then decide (y.day<=I.day)else decide (I.day<=y.day)
def Qx(A:Ad):Sp:=fun vs H Q _=>∃k S i I,vs=[.ref k,.ref i]/\dW A H k S/\iH A H i I/\issueAt S I.num=none/\∀H',bF H H'->Q (.bl (!jK S I)) H'
theorem Ol(T:gQ K mg A):Fn P w K mg base ig 2 "days_clash" ["known","issue"] (Qx A):=T.Du.fn fun f fd F=>by
 refine F.ok vJ (fun vs H Q E h=>?_) (fun cdv A' outer s H vs Q E hr h=>?_)
 ·obtain⟨k,S,i,I,rfl,_⟩:=h;rfl
 ·refine aR fun Pz pz=>?_;obtain⟨k,S,i,I,rfl,hK,hI,hno,c⟩:=h;refine pz ?_;refine⟨_,ay (i9 cH rfl (fG (bI (mY T) hr bx (ah (pv 0) aA))) (b8 (i:=2) vJ.nd rfl (Or.inl rfl))
    (ay (b7 (PW.pt (nX (bz yV (bY (pv 2) rfl) (bY (pv 1) rfl) (bM _)) (nv (bz yW (bY (pv 2) rfl) (bY (pv 1) rfl) (bM _))))) (aD (aW mj)) bC)
    (aD (b7 (PW.pt (nX (bz yW (bY (pv 2) rfl) (bY (pv 1) rfl) (bM _)) (nv (bz yV (bY (pv 2) rfl) (bY (pv 1) rfl) (bM _))))) (aD (aW mj)) bC))))
   (aD (aW mj)),?_⟩
  refine⟨_,rfl,k,S,rfl,hK,fun H1 l hl s1 hS=>?_⟩;obtain⟨as,hla,hp⟩:=hS;refine aR fun Pz pz=>?_;obtain⟨tx,⟨dx,ls,eI,_⟩,_⟩:=hI.same s1;refine pz ?_;refine⟨l,rfl,⟨_,cI.of hla⟩,mz (K:=K) (a:=l) (xs:=as.map V.ref) (fun j σ H'=>H'=H1/\(∃v2:Option V,σ=[some (.ref k),some (.ref i),v2])/\jK (S.take j) I=true) ⟨rfl,⟨none,rfl⟩,rfl⟩ (fun j σ H' _ ⟨z,_⟩=>by rw[z];exact cI.of hla) ?_ ?_⟩
  ·rintro j x σ H' hj ⟨rfl,⟨v2,rfl⟩,hok⟩;obtain⟨a,ha,rfl⟩:=rO hj;refine aR fun Pz pz=>?_;obtain⟨J,hJ,tx2,⟨Ec,ls2,eJ,_⟩,_⟩:=dm hp ha;refine pz ?_;have hJm:J∈S:=bW hJ;have hne:J.num≠I.num:=fun z=>by
    have:(issueAt S I.num).isSome=true:=pV.mpr (by rw[<- z];exact bV hJm);rw[hno]at this;cases this
   have step:jK (S.take (j+1)) I=(if J.num<I.num then decide (J.day<=I.day)else decide (I.day<=J.day)):=by
    unfold jK at hok ⊢;rw[dO hJ,List.all_append,hok,g8,ni,List.all_nil,Bool.and_true]
   have bad:(if J.num<I.num then decide (J.day<=I.day)else decide (I.day<=J.day))=false->Q (.bl true) H':=fun hb=>by
    have:jK S I=false:=by
     unfold jK;rw[List.all_eq_false];exact⟨J,hJm,by rw[hb];intro z;cases z⟩
    have q:=c H' s1;rw[this]at q;exact q
   have good:(if J.num<I.num then decide (J.day<=I.day)else decide (I.day<=J.day))=true->H'=H'/\(∃v2:Option V,([some (.ref k),some (.ref i),some (.ref a)]:L2.St)=[some (.ref k),some (.ref i),v2])/\jK (S.take (j+1)) I=true:=fun hg=>⟨rfl,⟨_,rfl⟩,step.trans hg⟩
   refine⟨_,rfl,a,_,Ec,_,_,rfl,eJ,T.dh,T.gr,rfl,_,rfl,i,_,dx,_,_,rfl,eI,T.dh,T.gr,rfl,_,_,rfl,rfl,_,rfl,?_⟩;refine gm (fun c1=>?_) (fun c1=>?_)
   ·have Ue:J.num<I.num:=by have:=aH c1;omega
    rw[aB Ue]at bad good;refine⟨_,rfl,a,_,Ec,_,_,rfl,eJ,T.dh,T.Cf,rfl,_,rfl,i,_,dx,_,_,rfl,eI,T.dh,T.Cf,rfl,_,_,rfl,rfl,_,rfl,?_⟩;refine gm (fun c2=>?_) (fun c2=>?_)
    ·exact bad (aK (by have:=aH c2;omega))
    ·refine⟨_,rfl,a,_,Ec,_,_,rfl,eJ,T.dh,T.gr,rfl,_,rfl,i,_,dx,_,_,rfl,eI,T.dh,T.gr,rfl,_,_,rfl,rfl,_,rfl,?_⟩;rw[aK (by omega)];refine cg (cg (good (aC ?_)));have:¬((I.day:Int)<(J.day:Int)):=fun z=>c2 (aC z);omega
   ·have Ue:¬J.num<I.num:=fun z=>c1 (aC (by omega));rw[ao Ue]at bad good;refine cg ?_;refine⟨_,rfl,a,_,Ec,_,_,rfl,eJ,T.dh,T.gr,rfl,_,rfl,i,_,dx,_,_,rfl,eI,T.dh,T.gr,rfl,_,_,rfl,rfl,_,rfl,?_⟩;rw[aC (by omega)];refine cW ?_;refine⟨_,rfl,a,_,Ec,_,_,rfl,eJ,T.dh,T.Cf,rfl,_,rfl,i,_,dx,_,_,rfl,eI,T.dh,T.Cf,rfl,_,_,rfl,rfl,_,rfl,?_⟩;refine gm (fun c2=>?_) (fun c2=>?_)
    ·exact bad (aK (by have:=aH c2;omega))
    ·have:¬((J.day:Int)<(I.day:Int)):=fun z=>c2 (aC z);exact good (aC (by omega))
  ·rintro σ H' ⟨rfl,⟨v2,rfl⟩,hok⟩;rw[ai,bg hp,bL]at hok;have q:=c H' s1;rw[hok]at q;exact q
theorem yb(I:Issue):∀(S:List Issue),(∀y∈S,y.num≠I.num)->∀n,issueAt (putIssue I S) n=if I.num=n then some I else issueAt S n
 |[],_,n=>by
  unfold Vbptan.putIssue Vbptan.issueAt;rw[dQ];by_cases h:I.num=n
  ·rw[aB h,show(I.num==n)=true from beq_iff_eq.mpr h]
  ·rw[ao h,show(I.num==n)=false from beq_eq_false_iff_ne.mpr h]
 |y::S,hy,n=>by
  have cons:∀(z:Issue) (l:List Issue),issueAt (z::l) n=if z.num=n then some z else issueAt l n:=fun z l=>by
   unfold Vbptan.issueAt;rw[dQ];by_cases h:z.num=n
   ·rw[aB h,show(z.num==n)=true from beq_iff_eq.mpr h]
   ·rw[ao h,show(z.num==n)=false from beq_eq_false_iff_ne.mpr h]
  unfold Vbptan.putIssue;by_cases h1:I.num<y.num
  ·rw[aB h1,cons]
  ·rw[ao h1,cons,cons,yb I S (fun z hz=>hy z (aG _ hz)) n];by_cases h2:I.num=n
   ·rw[aB h2,ao (fun z=>hy y aL (z.trans h2.symm)),aB h2]
   ·rw[ao h2,ao h2]
theorem D3{I:Issue} :∀{S:List Issue} {x:Issue},x∈putIssue I S↔x=I\/x∈S
 |[],x=>by unfold Vbptan.putIssue;rw[wu];exact⟨.inl,fun h=>h.elim id (fun z=>by cases z)⟩
 |y::S,x=>by
  unfold Vbptan.putIssue;split
  ·rw[iL]
  ·rw[iL,D3,iL];exact⟨fun h=>h.elim (fun z=>.inr (.inl z)) (fun h=>h.elim .inl (fun z=>.inr (.inr z))),fun h=>h.elim (fun z=>.inr (.inl z)) (fun h=>h.elim .inl (fun z=>.inr (.inr z)))⟩
theorem Jz{I:Issue} :∀{S:List Issue},S.Pairwise (fun a b=>a.num<b.num)->(∀y∈S,y.num≠I.num)->(putIssue I S).Pairwise fun a b=>a.num<b.num
 |[],_,_=>nR _ _
 |y::S,h,hy=>by
  rw[dg]at h;unfold Vbptan.putIssue;have h0:=hy y aL;split
  ·rename_i c;refine List.Pairwise.cons (fun x hx=>?_) (List.Pairwise.cons h.1 h.2);rcases List.mem_cons.mp hx with rfl|hx
   ·exact c
   ·exact nU c (h.1 x hx)
  ·refine List.Pairwise.cons (fun x hx=>?_) (Jz h.2 fun z hz=>hy z (aG _ hz));rcases D3.mp hx with rfl|hx
   ·omega
   ·exact h.1 x hx
theorem JA{I:Issue} :∀{S:List Issue},(putIssue I S).length=S.length+1
 |[]=>rfl
 |y::S=>by
  unfold Vbptan.putIssue;split
  ·rfl
  ·show(putIssue I S).length+1=_;rw[JA];rfl
def tG(S:List Issue)(I:Issue):List Issue×List Int:=match issueAt S I.num with
 |some y=>(S,if y.text=I.text then [(I.num:Int)]else [-6])
 |none=>if jK S I=false then(S,[-7])else if S.length<24 then(putIssue I S,[(I.num:Int)])else(S,[-9])
def WS(A:Ad):Sp:=fun vs H Q _=>∃k S i I,vs=[.ref k,.ref i]/\dW A H k S/\XW I/\iH A (wA H k) i I/\Ef A k H (tG S I).1 (tG S I).2 Q
theorem Uq(T:gQ K mg A):Fn P w K mg base ig 3 "add_issue" ["known","issue"] (WS A):=T.FJ.fn fun f fd F=>by
 refine F.ok xU (fun vs H Q E h=>?_) (fun cdv A' outer s H vs Q E hr h=>?_)
 ·obtain⟨k,S,i,I,rfl,_⟩:=h;rfl
 ·refine aR fun Pz pz=>?_;obtain⟨k,S,i,I,rfl,hK,ZU,hI,c⟩:=h;refine pz ?_;refine⟨_,ay (bH (i:=2) xU.nd rfl (Or.inl rfl) (bY (pv 1) rfl))
   (ay (b7 (qx (C0 (eL hr) (pv 2) (pv 0)))
    (aD (aW (uR (bz (DC hr.units) (bY (gc (eL hr) (pv 0) (pv 2) (fun _ _=>rfl)) rfl) (bY (pv 1) rfl) (bM _)) (b6 (ah (pv 2) aA)) (b6 (ah (dS T.Dv) aA))))) bC)
   (ay (b7 (ie (bI (Ol T) hr bx (ah (pv 0) (ah (pv 1) aA)))) (aD (aW (b6 (ah (dS T.tD) aA)))) bC)
   (ay (b7 (bz Vk (eU wO rfl T.bn.len uc (ah (pv 0) aA)) (dS T.t7) (bM _)) (aD (aW (b6 (ah (dS T.vN) aA)))) bC)
   (ay (sj (eL hr) (pv 0) (pv 2) (pv 1) rfl)
   (aD (aW (b6 (ah (pv 2) aA)))))))),?_⟩
  obtain⟨ok,kvs,KK⟩:=id hK;have hIH:=hI.same AK;refine aR fun Pz pz=>?_;obtain⟨tx,⟨dx,ls,eI,_⟩,htx⟩:=id hIH;refine pz ?_;refine⟨_,rfl,i,_,dx,_,_,rfl,eI,T.dh,T.gr,rfl,?_⟩;refine⟨_,rfl,_,rfl,k,_,rfl,fO.k (k:=kN I.num) KK.at_,_,rfl,?_⟩;have q:=KK.val I.num;unfold tG at c;cases hat:issueAt S I.num with
  |some y=>
   rw[hat]at q c;obtain⟨a,ea,hA⟩:=q;rw[ea];refine aR fun Pz pz=>?_;obtain⟨tx2,⟨Ec,ls2,eJ,_⟩,ZV⟩:=hA.same AK;refine pz ?_;refine cW ⟨_,rfl,_,rfl,k,_,rfl,by rw[<- ea];exact fO.k (k:=kN I.num) KK.at_,a,_,Ec,_,_,rfl,eJ,T.dh,T.Dl,rfl,_,rfl,i,_,dx,_,_,rfl,eI,T.dh,T.Dl,rfl,_,_,An (cI.of ZV),An (cI.of htx),_,rfl,?_⟩;rw[Nf];have c:Ef A k H S (if y.text=I.text then [(I.num:Int)]else [-6]) Q:=c;have c:=c.new hK;refine gm (fun h1=>?_) (fun h1=>?_)
   ·rw[aB (aH h1)]at c;exact⟨_,rfl,by show 1<=sizeLine;decide,fun u hu=>c _ u hu (aO hu) aj⟩
   ·rw[ao (fun z=>h1 (aC z))]at c;exact⟨by show 1<=sizeLine;decide,fun u hu=>c _ u hu (aO hu) aj⟩
  |none=>
   rw[hat]at q c;have q:dc kvs (kN I.num)=none:=q;rw[q];have c:Ef A k H (if jK S I=false then(S,[-7])else if S.length<24 then(putIssue I S,[(I.num:Int)])else(S,[-9])).1 (if jK S I=false then(S,[-7])else if S.length<24 then(putIssue I S,[(I.num:Int)])else(S,[-9])).2 Q:=c;refine cg ⟨_,rfl,_,rfl,k,S,i,I,rfl,hK,hIH,hat,fun H1 s1=>⟨_,rfl,?_⟩⟩;have c:=c.of s1;have OL:=hK.same s1;obtain⟨_,N9,U9⟩:=id OL;by_cases hdo:jK S I=false
   ·rw[aB hdo]at c;rw[hdo];exact cW ⟨by show 1<=sizeLine;decide,fun u hu=>c.new OL _ u hu (aO hu) aj⟩
   ·rw[ao hdo]at c;rw[show jK S I=true from Bool.not_eq_false _ ▸ hdo];refine aR fun Pz pz=>?_;obtain⟨ns,en,nd,perm,vS⟩:=pW ok U9;refine pz ?_;refine cg ⟨_,rfl,k,_,rfl,U9.at_,_,_,rfl,rfl,_,rfl,?_⟩;rw[vS];by_cases hl:S.length<24
    ·rw[aB hl]at c;rw[aK (by omega)];have q1:dc N9 (kN I.num)=none:=by
      have q:=U9.val I.num;rw[hat]at q;exact q
     refine cg ⟨_,rfl,_,rfl,_,rfl,k,_,rfl,yi.k (k:=kN I.num) U9.at_ (by rw[vS];show _<2 ^ 24;omega),?_⟩;refine⟨_,rfl,by show 1<=sizeLine;decide,fun u hu=>?_⟩;have Lb:dW A (upd H1 k (.dK (putK N9 (kN I.num) (.ref i)))) k (putIssue I S):=by
      have hnum:∀y∈S,y.num≠I.num:=fun y hy z=>by
       have:(issueAt S I.num).isSome=true:=pV.mpr (by rw[<- z];exact bV hy);rw[hat]at this;cases this
      refine⟨⟨Jz ok.tF hnum,fun x hx=>?_,by rw[JA];omega⟩,_,⟨aj,U9.keys.put,fun n=>?_⟩⟩
      ·rcases D3.mp hx with rfl|hx
       ·exact ZU
       ·exact ok.all x hx
      ·rw[yb I S hnum,mC];have sU:bF (wA H1 k) (wA (upd H1 k (.dK (putK N9 (kN I.num) (.ref i)))) k):=yJ d7;by_cases hn:I.num=n
       ·rw[aB hn,aB (by rw[hn])];exact⟨i,rfl,(hI.same (yJ s1.but)).same sU⟩
       ·rw[ao hn,ao (fun z=>hn (mW z).symm)];exact(U9.val n).same sU
     have ZW:u≠k:=fun z=>by rw[z,aj]at hu;cases hu
     have hu1:H1 u=none:=by rw[aI ZW]at hu;exact hu
     exact c _ u (d7.trans (aO hu).but) hu1 aj (Lb.same (aO hu))
    ·rw[ao hl]at c;rw[aC (by omega)];exact cW ⟨by show 1<=sizeLine;decide,fun u hu=>c.new OL _ u hu (aO hu) aj⟩
end
end Gz
namespace L2
open PySem PySem.Spec PyProof.Rows
theorem Rp{X:Cx}{hs:List ExceptHandler}{t u:PL}(h1:PH X hs t)(h2:PH X hs u):PH X hs (fun cls xd D σ H=>t cls xd D σ H\/u cls xd D σ H):=
 fun pins s σ H D a cls xd T G h=>h.elim (h1 pins s σ H D a cls xd T G) (h2 pins s σ H D a cls xd T G)
end L2
namespace Gz
open PySem PySem.Spec PyProof.Rows L2
open Vbptan (Simple Line Issue issueAt putIssue number value numberOf isValue must cut Word sealed)
theorem mh{e lo hi:Nat}{ws:List Word}{x:Nat×List Word}(h:number e lo hi ws=.ok x):lo<=x.1/\x.1<=hi:=by
 cases ws with
 |nil=>cases h
 |cons w r=>
  have h:(match numberOf lo hi w.2 with
   |some n=>Except.ok (n,r)
   |none=>Except.error w.1)=Except.ok x:=h
  split at h
  ·rename_i n hn;injection h with h
   rw[<- h];rw[kK]at hn;split at hn
   ·rename_i c;injection hn with hn
    rw[<- hn];exact c.2
   ·cases hn
  ·cases h
theorem F8{e:Nat}{ws:List Word}{x:List Nat×List Word}(h:value e ws=.ok x):x.1.length<=12:=by
 cases ws with
 |nil=>cases h
 |cons w r=>
  have h:(if isValue w.2=true then Except.ok (w.2,r)else Except.error w.1)=Except.ok x:=h;split at h
  ·rename_i c;injection h with h
   rw[<- h];rw[uq,bB,aZ]at c;exact c.1.2
  ·cases h
theorem Cu{e:Nat} :∀{f least:Nat} {ws:List Word} {x:List (Nat×List Nat)×List Word},gT e f least ws=.ok x->x.1.Pairwise (fun a b=>a.1<b.1)/\(∀y∈x.1,least<=y.1/\y.1<=99)/\∀y∈x.1,y.2.length<=12
 |0,_,_,_,h=>by cases h
 |f+1,least,ws,x,h=>by
  unfold gT at h;split at h
  ·injection h with h;rw[<- h];exact⟨List.Pairwise.nil,(fun _ z=>by cases z),(fun _ z=>by cases z)⟩
  ·obtain⟨a,ha,h⟩:=bA h;obtain⟨b,hb,h⟩:=bA h;obtain⟨c,hc,h⟩:=bA h;injection h with h;have h1:=mh ha;have h2:=F8 hb;obtain⟨h3,h4,h5⟩:=Cu hc;rw[<- h];refine⟨List.Pairwise.cons (fun y hy=>(h4 y hy).1) h3,fun y hy=>?_,fun y hy=>?_⟩
   ·rcases List.mem_cons.mp hy with rfl|hy
    ·exact h1
    ·exact⟨by have:=(h4 y hy).1;omega,(h4 y hy).2⟩
   ·rcases List.mem_cons.mp hy with rfl|hy
    ·exact h2
    ·exact h5 y hy
theorem Cv{e:Nat}{ws:List Word}{x:Simple×List Word}(h:iG e ws=.ok x):HQ x.1:=by
 unfold iG at h;split at h
 ·obtain⟨a,ha,h⟩:=bA h;obtain⟨b,hb,h⟩:=bA h;injection h with h;obtain⟨h3,h4,h5⟩:=Cu hb;rw[<- h];exact⟨mh ha,h3,h4,h5⟩
 ·split at h
  ·obtain⟨a,ha,h⟩:=bA h;obtain⟨b,hb,h⟩:=bA h;obtain⟨c,hc,h⟩:=bA h;injection h with h;rw[<- h];refine⟨mh ha,nR _ _,fun y hy=>?_,fun y hy=>?_⟩
   ·rw[List.mem_singleton.mp hy];exact mh hb
   ·rw[List.mem_singleton.mp hy];exact F8 hc
  ·obtain⟨a,ha,h⟩:=bA h;obtain⟨b,hb,h⟩:=bA h;injection h with h;rw[<- h];exact⟨mh hb,List.Pairwise.nil,(fun _ z=>by cases z),(fun _ z=>by cases z)⟩
theorem Qy{e n k:Nat}{ws:List Word}{x:Line×List Word}(h:mU e n k ws=.ok x):∀s,kQ x.1=some s->HQ s:=by
 unfold mU at h;split at h
 ·obtain⟨a,ha,h⟩:=bA h;injection h with h;rw[<- h];intro s hs;cases hs
 ·split at h
  ·obtain⟨a,ha,h⟩:=bA h;obtain⟨b,hb,h⟩:=bA h;obtain⟨c,hc,h⟩:=bA h;injection h with h;rw[<- h];intro s hs;cases hs;exact Cv hc
  ·obtain⟨a,ha,h⟩:=bA h;injection h with h;rw[<- h];intro s hs;cases hs;exact Cv ha
theorem F9{e n:Nat} :∀{f k:Nat} {ws:List Word} {x:List Line×List Word},gE e n f k ws=.ok x->∀l∈x.1,∀s,kQ l=some s->HQ s
 |0,_,_,_,h=>by cases h
 |f+1,k,ws,x,h=>by
  unfold gE at h;split at h
  ·injection h with h;rw[<- h];intro l hl;cases hl
  ·split at h
   ·injection h with h;rw[<- h];intro l hl;cases hl
   ·split at h
    ·injection h with h;rw[<- h];intro l hl;cases hl
    ·obtain⟨a,ha,h⟩:=bA h;obtain⟨b,hb,h⟩:=bA h;obtain⟨c,hc,h⟩:=bA h;injection h with h;rw[<- h];intro l hl;rcases List.mem_cons.mp hl with rfl|hl
     ·exact Qy ha
     ·exact F9 hc l hl
theorem JB{t:List Nat}{x:Issue×Nat×Nat×Nat}(h:mV t=.ok x)(ht:t.length<=2000):XW x.1/\x.1.text=t:=by
 obtain⟨a,ha,h⟩:=bA h;obtain⟨n,hn,h⟩:=bA h;obtain⟨b,hb,h⟩:=bA h;obtain⟨d,hd,h⟩:=bA h;obtain⟨c,hc,h⟩:=bA h;obtain⟨l,hl,h⟩:=bA h;obtain⟨y,hy,h⟩:=bA h;obtain⟨cn,hcn,h⟩:=bA h;obtain⟨ck,hck,h⟩:=bA h;obtain⟨z,hz,h⟩:=bA h;injection h with h;rw[<- h];exact⟨⟨mh hn,AH hl,ht,F9 hl⟩,rfl⟩
instance (t:List Nat) (x:Issue×Nat×Nat×Nat):Decidable (iU t x):=inferInstanceAs (Decidable (_/\_))
def yc(S:List Issue)(t:List Nat):List Issue×List Int:=match mV t with
 | .error p=>(S,[-1000-(p:Int)])
 | .ok x=>if iU t x then tG S x.1 else(S,[-2])
def rS(t:List Nat):List Int:=match mV t with
 | .error p=>[1,(p:Int)]
 | .ok x=>if iU t x then [0]else [2]
section
variable{P:Program}{w:World}{K:PySem.W.Frag}{mg:Str->Option Value}{base:Heap}{A:Ad}{CX:nZ}
def JC(A:Ad)(H:Hp)(t:List Nat):XK:=fun cls xd H'=>bF H H'/\match mV t with
 | .error p=>∃d,cls=.ref A.eV/\xd=some d/\H' d=some (.xd [("place",.int (p:Nat))])
 | .ok x=>¬iU t x/\cls=.ref A.qV/\xd=none
theorem JD{H:Hp}{a:Addr}{t:List Nat}{Q:VK}(ha:H a=some (.lst (zs t)))(ht:t.length<=2000)(k:∀x,mV t=.ok x->iU t x->∀v H',bF H H'->xg A (less H' H) v a x.1->Q (.ref v) H'):
  xY A [.ref a] H Q (JC A H t):=by
 refine⟨a,t,rfl,ha,ht,?_⟩;unfold JC;cases e:mV t with
 |error p=>exact fun d H' s hd=>⟨s,d,rfl,rfl,hd⟩
 |ok x=>exact⟨k x e,fun hg H' s=>⟨s,hg,rfl,rfl⟩⟩
def Ur(A:Ad):Sp:=fun vs H Q _=>∃k S a t,vs=[.ref k,.ref a]/\dW A H k S/\H a=some (.lst (zs t))/\t.length<=2000/\Ef A k H (yc S t).1 (yc S t).2 Q
theorem Qz(T:gQ K mg A):Fn P w K mg base ig 9 "take" ["known","text"] (Ur A):=T.Tj.fn fun f fd F=>by
 refine F.ok HA (fun vs H Q E h=>?_) (fun cdv A' outer s H vs Q E hr h=>?_)
 ·obtain⟨k,S,a,t,rfl,_⟩:=h;rfl
 ·obtain⟨k,S,a,t,rfl,hK,ha,ht,c⟩:=h;refine⟨_,ay (Hu (JC A H t) rfl rfl (fun Y PP hx hp=>aD (bH (i:=2) HA.nd rfl (Or.inl rfl) (bI (FU T) hr (eY hx) (ah (pv 1) aA))))
    (Rp (zR (j:=3) (ts:=sW (Eo (cE (En (Lr fun i j=>.int (i-j)) (tC (.int (-1000))) (IZ K (cT 3) "place")) fW))) T.kF rfl T.sF HA.nd rfl rfl (fun a=>by exact aD (aW (b6 (ah (eB wC (dS T.Jh) (C9 (pv 3) rfl)) aA)))))
     (I0 T.kF rfl T.sF (MV T.vK rfl T.Dj (fun a=>aD (aW (b6 (ah (dS T.pK) aA))))))))
   (aD (aW (bI (Uq T) hr bx (ah (pv 0) (ah (pv 2) aA))))),?_⟩
  unfold yc at c;refine⟨⟨_,rfl,?_⟩,fun cls xd H1 σ' hσ hX=>?_⟩
  ·dsimp only[fW];refine JD ha ht fun x hx hg v H1 s1 hB=>?_;rw[hx]at c;have c:Ef A k H (if iU t x then tG S x.1 else(S,[-2])).1 (if iU t x then tG S x.1 else(S,[-2])).2 Q:=c;rw[aB hg]at c;obtain⟨ZU,etx⟩:=JB hx ht;obtain⟨_,kvs,KK⟩:=id hK;have nak:a≠k:=ic ha KK.at_ (by intro z;cases z);have sL:bF (less H1 H) (wA H1 k):=fun b o e=>by
    obtain⟨e1,e2⟩:=nF e;rw[ja (fun z=>by rw[z,KK.at_]at e1;cases e1)];exact e2
   refine⟨_,rfl,_,rfl,k,S,v,x.1,rfl,hK.same s1,ZU,⟨a,hB.same sL,?_⟩,c.of s1⟩;rw[ja nak,etx];exact s1 _ _ ha
  ·obtain⟨s1,hX⟩:=hX;have OL:=hK.same s1;cases e:mV t with
   |error p=>
    rw[e]at hX c;obtain⟨d,rfl,rfl,hd⟩:=hX;have c:Ef A k H S [-1000-(p:Int)] Q:=c;refine .inl ⟨rfl,fun ea WT=>?_⟩;obtain⟨x0,x1,x2,x3,rfl⟩:∃x0 x1 x2 x3,σ'=[x0,x1,x2,x3]:=by
     match σ',hσ with
     |[x0,x1,x2,x3],_=>exact⟨x0,x1,x2,x3,rfl⟩
    have s2:=aO (o:=C8 ea A.eV (some d)) WT;refine⟨_,rfl,ea,_,_,_,d,_,_,rfl,aj,s2 _ _ hd,T.kF,T.yD,rfl,_,_,rfl,rfl,by show 1<=sizeLine;decide,fun u hu=>?_⟩;exact(c.of (s1.trans s2)).new (OL.same s2) _ u hu (aO hu) aj
   |ok x=>
    rw[e]at hX c;obtain⟨hg,rfl,rfl⟩:=hX;have c:Ef A k H (if iU t x then tG S x.1 else(S,[-2])).1 (if iU t x then tG S x.1 else(S,[-2])).2 Q:=c;rw[ao hg]at c;refine .inr ⟨⟨A.qV,_,_,rfl,T.vK,T.Wk⟩,rfl,by show 1<=sizeLine;decide,fun u hu=>?_⟩;exact(c.of s1).new OL _ u hu (aO hu) aj
def QA:Sp:=fun vs H Q _=>∃a t,vs=[.ref a]/\H a=some (.lst (zs t))/\t.length<=2000/\oW (rS t) H Q
theorem Om(T:gQ K mg A):Fn P w K mg base ig 9 "judge" ["text"] QA:=T.P5.fn fun f fd F=>by
 refine F.ok Jf (fun vs H Q E h=>?_) (fun cdv A' outer s H vs Q E hr h=>?_)
 ·obtain⟨a,t,rfl,_⟩:=h;rfl
 ·obtain⟨a,t,rfl,ha,ht,c⟩:=h;refine⟨_,ay (Hu (JC A H t) rfl rfl (fun Y PP hx hp=>aD (f9 (bI (FU T) hr (eY hx) (ah (pv 0) aA))))
    (Rp (zR (j:=1) (ts:=sW (Eo (cE (tC (.int 1)) (cE (IZ K (cT 1) "place") fW)))) T.kF rfl T.sF Jf.nd rfl rfl (fun a=>by exact aD (aW (b6 (ah aY (ah (C9 (pv 1) rfl) aA))))))
     (I0 T.kF rfl T.sF (MV T.vK rfl T.Dj (fun a=>aD (aW (b6 (ah aY aA))))))))
   (aD (aW (b6 (ah aY aA)))),?_⟩
  unfold rS at c;refine⟨⟨_,rfl,?_⟩,fun cls xd H1 σ' hσ hX=>?_⟩
  ·dsimp only[fW];refine JD ha ht fun x hx hg v H1 s1 hB=>?_;rw[hx]at c;have c:oW (if iU t x then [0]else [2]) H Q:=c;rw[aB hg]at c;exact⟨by show 1<=sizeLine;decide,fun u hu=>tE.of c s1 _ u hu (aO hu) aj⟩
  ·obtain⟨s1,hX⟩:=hX;cases e:mV t with
   |error p=>
    rw[e]at hX c;obtain⟨d,rfl,rfl,hd⟩:=hX;refine .inl ⟨rfl,fun ea WT=>?_⟩;obtain⟨x0,x1,rfl⟩:∃x0 x1,σ'=[x0,x1]:=by
     match σ',hσ with
     |[x0,x1],_=>exact⟨x0,x1,rfl⟩
    have s2:=aO (o:=C8 ea A.eV (some d)) WT;refine⟨_,rfl,ea,_,_,_,d,_,_,rfl,aj,s2 _ _ hd,T.kF,T.yD,rfl,by show 2<=sizeLine;decide,fun u hu=>?_⟩;exact tE.of c (s1.trans s2) _ u hu (aO hu) aj
   |ok x=>
    rw[e]at hX c;obtain⟨hg,rfl,rfl⟩:=hX;have c:oW (if iU t x then [0]else [2]) H Q:=c;rw[ao hg]at c;refine .inr ⟨⟨A.qV,_,_,rfl,T.vK,T.Wk⟩,rfl,by show 1<=sizeLine;decide,fun u hu=>?_⟩;exact tE.of c s1 _ u hu (aO hu) aj
def rT(n d:Nat)(t:List Nat):List Int:=match n8 t n with
 | .error p=>[-1000-(p:Int)]
 | .ok ls=>0::Vbptan.ints (sealed n d ls.length t)
def QB:Sp:=fun vs H Q _=>∃a t,∃n d:Nat,vs=[.int (n:Nat),.int (d:Nat),.ref a]/\H a=some (.lst (zs t))/\t.length<=2000/\n<=99/\d<=100000/\oW (rT n d t) H Q
def Us(A:Ad)(H:Hp)(t:List Nat)(n:Nat):XK:=fun cls xd H'=>∃p d,n8 t n=.error p/\bF H H'/\cls=.ref A.eV/\xd=some d/\H' d=some (.xd [("place",.int (p:Nat))])
theorem AL{n d c:Nat}{b:List Nat}(hn:n<=99)(hd:d<=100000)(hc:c<=40):(sealed n d c b).length<=b.length+60:=by
 rw[Ct hn hd hc];unfold jJ uH;have kn:=AJ (jJ n d++b);unfold jJ at kn;have n1:=i6 (n:=n) (by omega);have n2:=i6 (n:=d) (by omega);have n3:=i6 (n:=c) (by omega);generalize Vbptan.check _=ck at *;have n4:=i6 (n:=ck) (by omega);have w1:(Vbptan.W "gazette ").length=8:=by decide +kernel
 have w2:(Vbptan.W " of ").length=4:=by decide +kernel
 have w3:(Vbptan.W "close ").length=6:=by decide +kernel
 simp only[au,az,dj,w1,w2,w3];omega
theorem Oo(T:gQ K mg A):Fn P w K mg base ig 10 "write" ["number","day","lines_text"] QB:=T.nE.fn fun f fd F=>by
 refine F.ok Di (fun vs H Q E h=>?_) (fun cdv A' outer s H vs Q E hr h=>?_)
 ·obtain⟨a,t,n,d,rfl,_⟩:=h;rfl
 ·obtain⟨a,t,n,d,rfl,ha,ht,hn,hd,c⟩:=h;refine⟨_,ay (Hu (Us A H t n) rfl rfl (fun Y PP hx hp=>aD (bH (i:=3) Di.nd rfl (Or.inl rfl) (bI (La T) hr (eY hx) (ah (pv 0) (ah (pv 1) (ah (pv 2) aA))))))
    (zR (j:=4) (ts:=sW (Eo (cE (En (Lr fun i j=>.int (i-j)) (tC (.int (-1000))) (IZ K (cT 4) "place")) fW))) T.kF rfl T.sF Di.nd rfl rfl (fun a=>by exact aD (aW (b6 (ah (eB wC (dS T.Jh) (C9 (pv 4) rfl)) aA))))))
   (aD (aW (eB jY (b6 (ah aY aA)) (pv 3)))),?_⟩
  unfold rT at c;refine⟨⟨_,rfl,_,rfl,_,rfl,a,t,n,d,rfl,ha,ht,hn,hd,?_⟩,fun cls xd H1 σ' hσ hX=>?_⟩
  ·cases e:n8 t n with
   |error p=>exact fun d' H' s hd'=>⟨p,d',e,s,rfl,rfl,hd'⟩
   |ok ls=>
    rw[e]at c;have hls:=AI e;intro H1 b hb s1 h1;refine⟨by show 1<=sizeLine;decide,fun r hr'=>?_⟩;have s2:=aO (o:=.lst [.int 0]) hr';refine⟨_,rfl,r,b,_,_,rfl,rfl,aj,s2 _ _ h1,?_,fun u hu=>c _ u ((s1.trans s2).free hu) (s1.trans (s2.trans (aO hu))) ?_⟩
    ·rw[cF];have:=AL (b:=t) hn hd hls;show 1+_<=2 ^ 24;omega
    ·rw[aj,aV,oj];rfl
  ·obtain⟨p,d',e,s1,rfl,rfl,hd'⟩:=hX;rw[e]at c;refine⟨rfl,fun ea WT=>?_⟩;obtain⟨x0,x1,x2,x3,x4,rfl⟩:∃x0 x1 x2 x3 x4,σ'=[x0,x1,x2,x3,x4]:=by
    match σ',hσ with
    |[x0,x1,x2,x3,x4],_=>exact⟨x0,x1,x2,x3,x4,rfl⟩
   have s2:=aO (o:=C8 ea A.eV (some d')) WT;refine⟨_,rfl,ea,_,_,_,d',_,_,rfl,aj,s2 _ _ hd',T.kF,T.yD,rfl,_,_,rfl,rfl,by show 1<=sizeLine;decide,fun u hu=>?_⟩;exact tE.of c (s1.trans s2) _ u hu (aO hu) aj
end
end Gz
namespace Gz
open PySem PySem.Spec PyProof.Rows L2
open Vbptan (Simple Line Issue issueAt putIssue placed gaps)
theorem pX(n:Nat):∀(S:List Issue) (m:Nat),issueAt (S.filter fun y=>y.num != n) m=if m=n then none else issueAt S m
 |[],m=>by
  by_cases h:m=n
  ·rw[aB h];rfl
  ·rw[ao h];rfl
 |x::S,m=>by
  have cons:∀(z:Issue) (l:List Issue),issueAt (z::l) m=if z.num=m then some z else issueAt l m:=fun z l=>by
   unfold Vbptan.issueAt;rw[dQ];by_cases h:z.num=m
   ·rw[aB h,show(z.num==m)=true from beq_iff_eq.mpr h]
   ·rw[ao h,show(z.num==m)=false from beq_eq_false_iff_ne.mpr h]
  rw[cD];by_cases h1:x.num=n
  ·rw[ao (by rw[h1];simp),pX n S m,cons];by_cases h:m=n
   ·rw[aB h,aB h]
   ·rw[ao h,ao h,ao (fun z=>h (z.symm.trans h1))]
  ·rw[aB (by simpa using h1),cons,pX n S m,cons];by_cases h:m=n
   ·rw[aB h,ao (fun z=>h1 (z.trans h)),aB h]
   ·rw[ao h,ao h]
def mZ(S:List Issue)(ns:List Int):List Int:=if(decide (ns.length<=24)&&ns.all fun i=>S.any fun x=>(x.num:Int)==i)=true then oX S ns else [-4]
theorem Lc{A:Ad}{H:Hp}{k:Addr}{S:List Issue}{kvs:List (Key×V)}(ok:rM S)(KK:DZ A H k S kvs)(i:Int):(dc kvs (Sum.inl i)).isSome=S.any fun x=>(x.num:Int)==i:=by
 obtain⟨ns,en,nd,perm,_⟩:=pW ok KK;rw[<- iS,cR,lB,lB];constructor
 ·rintro ⟨kv,h1,h2⟩;have:kv.1∈kvs.map (·.1):=bV h1;rw[en]at this;obtain⟨n,hn,e⟩:=List.mem_map.mp this;obtain⟨x,hx,ex⟩:=List.mem_map.mp (perm.mem_iff.mp hn);refine⟨x,hx,beq_iff_eq.mpr ?_⟩;have e2:kN n=Sum.inl i:=e.trans (aH h2);injection e2 with e2
  rw[ex,e2]
 ·rintro ⟨x,hx,e⟩;have hn:x.num∈ns:=perm.mem_iff.mpr (bV hx);have:kN x.num∈kvs.map (·.1):=by rw[en];exact bV hn
  obtain⟨kv,h1,h2⟩:=List.mem_map.mp this;exact⟨kv,h1,aC (by rw[h2, <- jo e])⟩
section
variable{P:Program}{w:World}{K:PySem.W.Frag}{mg:Str->Option Value}{base:Heap}{A:Ad}{CX:nZ}
def Ut(A:Ad):Sp:=fun vs H Q _=>∃k S I,∃n:Nat,vs=[.ref k,.int (n:Nat)]/\dW A H k S/\issueAt S n=some I/\Ef A k H (S.filter fun y=>y.num != n) [((S.length-1:Nat):Int)] Q
theorem QC(T:gQ K mg A):Fn P w K mg base ig 1 "lose" ["known","number"] (Ut A):=T.Tn.fn fun f fd F=>by
 refine F.ok S9 (fun vs H Q E h=>?_) (fun cdv A' outer s H vs Q E hr h=>?_)
 ·obtain⟨k,S,I,n,rfl,_⟩:=h;rfl
 ·obtain⟨k,S,I,n,rfl,hK,hI,c⟩:=h;refine⟨_,ay (f9 (Mh (pv 0) (pv 1) ⟨rfl,rfl,rfl,rfl⟩)) (aD (aW (b6 (ah (eU wO rfl T.bn.len uc (ah (pv 0) aA)) aA)))),?_⟩;obtain⟨ok,kvs,KK⟩:=hK;obtain⟨ns,en,nd,perm,vS⟩:=pW ok KK;have q:=KK.val n;rw[hI]at q;obtain⟨a,ea,hA⟩:=q;refine⟨_,rfl,k,rfl,.inl ⟨_,.inl KK.at_⟩,_,rfl,kvs,kN n,.ref a,KK.at_,rfl,ea,?_⟩;have dl:=BW KK.keys.1 (C1 ea);refine⟨_,rfl,k,_,rfl,aj,by show 1<=sizeLine;decide,fun u hu=>?_⟩;have ZW:u≠k:=fun z=>by rw[z,aj]at hu;cases hu
  have hu1:H u=none:=by rw[aI ZW]at hu;exact hu
  have Lb:dW A (upd H k (.dK (iM kvs (kN n)))) k (S.filter fun y=>y.num != n):=by
   refine⟨ok.sub fj,_,⟨aj,KK.keys.drop,fun m=>?_⟩⟩;rw[pX,sM];by_cases hm:m=n
   ·rw[aB hm,aB (by rw[hm])];rfl
   ·rw[ao hm,ao (fun z=>hm (mW z))];exact(KK.val m).same (yJ d7)
  refine c _ u (d7.trans (aO hu).but) hu1 ?_ (Lb.same (aO hu));rw[aj,show(iM kvs (kN n)).length=S.length-1 by omega];rfl
def ZX(A:Ad):Sp:=fun vs H Q _=>∃k S a ns,vs=[.ref k,.ref a]/\dW A H k S/\H a=some (.lst (List.map V.int ns))/\ns.length<=2000/\oW (mZ S ns) H Q
theorem WU(T:gQ K mg A):Fn P w K mg base ig 7 "without" ["known","numbers"] (ZX A):=T.KJ.fn fun f fd F=>by
 refine F.ok wZ (fun vs H Q E h=>?_) (fun cdv A' outer s H vs Q E hr h=>?_)
 ·obtain⟨k,S,a,ns,rfl,_⟩:=h;rfl
 ·obtain⟨k,S,a,ns,rfl,hK,ha,hl,c⟩:=h;refine⟨_,ay (b7 (PW.pt (BI (bz yW (fX T.bn (pv 1)) (dS T.t7) (bM _)) (wB (ie (eU (LZ rfl) rfl T.bn.We PyProof.Rows.Boot.«any» (ah (oB (own:=[("number",2)]) rfl wZ.nd (fG (pv 1)) (fM (by kernel_rfl)) (fun _ _ _ _ _=>b8 (i:=2) wZ.nd rfl (Or.inl rfl)) (fun _ _ _ _ _=>lU)
    (fun _ _ _ _ _=>RK (oF (eL hr) (pv 2) (pv 0)))) aA))))))
    (aD (aW (b6 (ah (dS T.Al) aA)))) bC)
   (aD (aW (bI (F7 T) hr bx (ah (bI (mY T) hr bx (ah (pv 0) aA)) (ah (pv 1) aA))))),?_⟩
  obtain⟨ok,kvs,KK⟩:=id hK;unfold mZ at c;refine⟨_,rfl,a,_,rfl,.inl (cI.of ha),_,_,rfl,rfl,_,rfl,?_⟩;rw[ai];refine gm (fun h1=>?_) (fun h1=>?_)
  ·have TR:=aH h1;rw[aK (by omega),jX,ao (by intro z;cases z)]at c;exact cW ⟨by show 1<=sizeLine;decide,fun u hu=>c _ u hu (aO hu) aj⟩
  ·have TR:¬((24:Int)<(ns.length:Int)):=fun z=>h1 (aC z);rw[aC (by omega),g8]at c;refine⟨_,rfl,a,rfl,⟨_,cI.of ha⟩,fun D hD=>?_⟩;refine jA (K:=K) (a:=a) (xs:=ns.map V.int) (fun i H'=>bF H H'/\H' D=some (.lst (((ns.take i).map fun i=> !(S.any fun x=>(x.num:Int)==i)).map V.bl))) ⟨aO hD,aj⟩ (fun i H' _ ⟨z,_⟩=>cI.of (z _ _ ha)) (fun i x H' hi ⟨z1,z2⟩=>?_) (fun H' ⟨z1,z2⟩=>?_)
   ·rw[bf]at hi;obtain⟨m,hm,rfl⟩:=Option.map_eq_some_iff.mp hi;refine⟨rfl,_,rfl,_,rfl,k,_,rfl,fO.k (k:=Sum.inl m) (z1 _ _ KK.at_),rK hD z1 z2 ?_ ?_⟩
    ·rw[ai,ai,b4];show min _ _<2 ^ 24;omega
    ·rw[Lc ok KK,dO hm,aX,aX];rfl
   ·rw[ai,bL]at z2;refine⟨D,_,rfl,cI.of z2,_,rfl,?_⟩;have e:((ns.map fun i=> !(S.any fun x=>(x.num:Int)==i)).any id)= !(ns.all fun i=>S.any fun x=>(x.num:Int)==i):=by
     rw[List.any_map,List.not_all_eq_any_not];rfl
    rw[e];have c:=tE.of c z1;by_cases hall:(ns.all fun i=>S.any fun x=>(x.num:Int)==i)=true
    ·rw[aB hall]at c;rw[hall];refine cg ⟨_,rfl,k,S,rfl,hK.same z1,fun H2 l hl' s2 hI=>⟨_,rfl,l,S,a,ns,rfl,hI,ok,s2 _ _ (z1 _ _ ha),tE.of c s2⟩⟩
    ·rw[ao hall]at c;rw[Bool.eq_false_iff.mpr hall];exact cW ⟨by show 1<=sizeLine;decide,fun u hu=>c _ u hu (aO hu) aj⟩
inductive Rq:Nat->List Nat->Prop
 |c4 (f:Nat):Rq 4 [f]
 |c5 (f c:Nat):Rq 5 [f,c]
 |c7 (f:Nat):Rq 7 [f]
 |c8 (f n:Nat):Rq 8 [f,n]
 |c9 (f n:Nat):Rq 9 [f,n]
 |Rr (f:Nat):Rq 13 [f]
def Oq(S:List Issue):Nat->List Nat->List Int
 |4,[f]=>DX S f
 |5,[f,c]=>uG S f c
 |7,[f]=>Jw S f
 |8,[f,n]=>DY S f n
 |9,[f,n]=>F5 S f n
 |13,[f]=>rQ S f
 |_,_=>[]
def WV(A:Ad):Sp:=fun vs H Q _=>∃l S a ns,∃c:Nat,vs=[.ref l,.int (c:Nat),.ref a]/\dF A H l S/\rM S/\H a=some (.lst (zs ns))/\Rq c ns/\oW (Oq S c ns) H Q
theorem WW(T:gQ K mg A):Fn P w K mg base ig 8 "answer_about_file" ["issues","call","numbers"] (WV A):=T.tu.fn fun f fd F=>by
 refine F.ok lM (fun vs H Q E h=>?_) (fun cdv A' outer s H vs Q E hr h=>?_)
 ·obtain⟨l,S,a,ns,c,rfl,_⟩:=h;rfl
 ·obtain⟨l,S,a,ns,c,rfl,hI,ok,ha,sh,k⟩:=h;refine⟨_,ay (bH (i:=3) lM.nd rfl (Or.inl rfl) (fJ gR (pv 2) aY (fun _ _=>rfl)))
   (ay (b7 (bz gk (pv 1) aY (bM _)) (aD (aW (bI (AB T) hr bx (ah (pv 0) (ah (pv 3) aA))))) bC)
   (ay (b7 (bz gk (pv 1) aY (bM _)) (aD (aW (bI (K6 T) hr bx (ah (pv 0) (ah (pv 3) (ah (fJ gR (pv 2) aY (fun _ _=>rfl)) aA)))))) bC)
   (ay (b7 (bz gk (pv 1) aY (bM _)) (aD (aW (bI (Oc T) hr bx (ah (pv 0) (ah (pv 3) aA))))) bC)
   (ay (b7 (bz gk (pv 1) aY (bM _)) (aD (aW (bI (HV T) hr bx (ah (pv 0) (ah (pv 3) (ah (fJ gR (pv 2) aY (fun _ _=>rfl)) aA)))))) bC)
   (ay (b7 (bz gk (pv 1) aY (bM _)) (aD (aW (bI (Ob T) hr bx (ah (pv 0) (ah (pv 3) (ah (fJ gR (pv 2) aY (fun _ _=>rfl)) aA)))))) bC)
   (aD (aW (bI (F6 T) hr bx (ah (pv 0) (ah (pv 3) aA)))))))))),?_⟩
  cases sh with
  |c4 f=>
   refine⟨_,rfl,a,_,_,_,rfl,rfl,cI.of ha,cB (j:=0) rfl,?_⟩;exact⟨_,rfl,rfl,_,rfl,cW ⟨_,rfl,_,rfl,l,S,f,rfl,hI,ok,k⟩⟩
  |c5 f d=>
   refine⟨_,rfl,a,_,_,_,rfl,rfl,cI.of ha,cB (j:=0) rfl,?_⟩;refine⟨_,rfl,rfl,_,rfl,cg ?_⟩;exact⟨_,rfl,rfl,_,rfl,cW ⟨_,rfl,_,rfl,_,rfl,a,_,_,_,rfl,rfl,cI.of ha,cB (j:=1) rfl,l,S,f,d,rfl,hI,ok,k⟩⟩
  |c7 f=>
   refine⟨_,rfl,a,_,_,_,rfl,rfl,cI.of ha,cB (j:=0) rfl,?_⟩;refine⟨_,rfl,rfl,_,rfl,cg ?_⟩;refine⟨_,rfl,rfl,_,rfl,cg ?_⟩;exact⟨_,rfl,rfl,_,rfl,cW ⟨_,rfl,_,rfl,l,S,f,rfl,hI,ok,k⟩⟩
  |c8 f d=>
   refine⟨_,rfl,a,_,_,_,rfl,rfl,cI.of ha,cB (j:=0) rfl,?_⟩;refine⟨_,rfl,rfl,_,rfl,cg ?_⟩;refine⟨_,rfl,rfl,_,rfl,cg ?_⟩;refine⟨_,rfl,rfl,_,rfl,cg ?_⟩;exact⟨_,rfl,rfl,_,rfl,cW ⟨_,rfl,_,rfl,_,rfl,a,_,_,_,rfl,rfl,cI.of ha,cB (j:=1) rfl,l,S,f,d,rfl,hI,ok,k⟩⟩
  |c9 f d=>
   refine⟨_,rfl,a,_,_,_,rfl,rfl,cI.of ha,cB (j:=0) rfl,?_⟩;refine⟨_,rfl,rfl,_,rfl,cg ?_⟩;refine⟨_,rfl,rfl,_,rfl,cg ?_⟩;refine⟨_,rfl,rfl,_,rfl,cg ?_⟩;refine⟨_,rfl,rfl,_,rfl,cg ?_⟩;exact⟨_,rfl,rfl,_,rfl,cW ⟨_,rfl,_,rfl,_,rfl,a,_,_,_,rfl,rfl,cI.of ha,cB (j:=1) rfl,l,S,f,d,rfl,hI,ok,k⟩⟩
  |Rr f=>
   refine⟨_,rfl,a,_,_,_,rfl,rfl,cI.of ha,cB (j:=0) rfl,?_⟩;refine⟨_,rfl,rfl,_,rfl,cg ?_⟩;refine⟨_,rfl,rfl,_,rfl,cg ?_⟩;refine⟨_,rfl,rfl,_,rfl,cg ?_⟩;refine⟨_,rfl,rfl,_,rfl,cg ?_⟩;refine⟨_,rfl,rfl,_,rfl,cg ?_⟩;exact⟨_,rfl,_,rfl,l,S,f,rfl,hI,ok,k⟩
end
def rU(S:List Issue)(c n:Nat)(I:Issue)(j:Int):List Int:=match if j<1 then none else I.lines[j.toNat-1]? with
 |none=>[-5]
 |some y=>if c=10 then AF S (n,j.toNat) y else AG S (n,j.toNat)
def BF(S:List Issue)(i:Int):Option Issue:=if i<0 then none else issueAt S i.toNat
def HZ(S:List Issue)(c:Nat)(i j:Int):List Issue×List Int:=match BF S i with
 |none=>(S,[-5])
 |some I=>if c=10\/c=11 then(S,rU S c I.num I j)else if c=14 then(S,0::Vbptan.ints I.text)else if c=15 then(S.filter fun y=>y.num != I.num,[((S.length-1:Nat):Int)])else(S,[(I.day:Int),(I.lines.length:Int)])
def Ga(S:List Issue)(c:Nat)(ns:List Nat)(ls:List Int):List Issue×List Int:=
 if c=0 then yc S (ls.map Int.toNat)else if c=1 then(S,rS (ls.map Int.toNat))else if c=12 then(S,rT (ns.getD 0 0) (ns.getD 1 0) (ls.map Int.toNat))else if c=16 then(S,mZ S ls)else(S,pT S (ns.getD 0 0) (ls.map Int.toNat))
def allR(S:List Issue)(c:Nat):List Int:=if c=2 then 0::Vbptan.ints (S.map fun x=>x.num)else if c=3 then 0::Vbptan.ints (gaps S)else if c=6 then AA S else Cq S
def gP(n:Int):Option (Int×Int)->Bool
 |none=>false
 |some p=> !(decide (p.1<=n)&&decide (n<=p.2))
def vX(ns:List Int)(bs:List (Option (Int×Int))):Bool:=(ns.zip bs).any fun x=>gP x.1 x.2
section
variable{P:Program}{w:World}{K:PySem.W.Frag}{mg:Str->Option Value}{base:Heap}{A:Ad}{CX:nZ}
def ZY(A:Ad):Sp:=fun vs H Q _=>∃k S I,∃(c n:Nat) (j:Int),vs=[.ref k,.int (c:Nat),.int (n:Nat),.int j]/\dW A H k S/\issueAt S n=some I/\(c=10\/c=11)/\oW (rU S c n I j) H Q
theorem WX(T:gQ K mg A):Fn P w K mg base ig 5 "answer_about_line" ["known","call","number","line_number"] (ZY A):=T.tw.fn fun f fd F=>by
 refine F.ok sY (fun vs H Q E h=>?_) (fun cdv A' outer s H vs Q E hr h=>?_)
 ·obtain⟨k,S,I,c,n,j,rfl,_⟩:=h;rfl
 ·obtain⟨k,S,I,c,n,j,rfl,hK,hI,hc,q⟩:=h;refine⟨_,ay (b7 (mw (yZ ny ny aY (pv 3) (fX T.bn (bY (gc (eL hr) (pv 0) (pv 2) (fun _ _=>rfl)) rfl)))) (aD (aW (b6 (ah (dS T.xV) aA)))) bC)
   (ay (b7 (bz gk (pv 1) aY (bM _)) (aD (aW (bI (Oh T) hr bx (ah (bI (mY T) hr bx (ah (pv 0) aA)) (ah (o9 (ah (pv 2) (ah (pv 3) aA))) aA))))) bC)
   (aD (aW (bI (Oi T) hr bx (ah (bI (mY T) hr bx (ah (pv 0) aA)) (ah (o9 (ah (pv 2) (ah (pv 3) aA))) aA)))))),?_⟩
  obtain⟨ok,kvs,KK⟩:=id hK;have kv:=KK.val n;rw[hI]at kv;obtain⟨a,ea,hA⟩:=kv;obtain⟨tx,⟨dx,ls,eI,OJ,el,pl⟩,_⟩:=hA.same AK;have NK:OJ.length=I.lines.length:=bg pl;obtain⟨XX,hIn⟩:=rR hI;unfold rU at q;have bad:(if j<1 then none else I.lines[j.toNat-1]?)=none->oW [-5] H Q:=fun e=>by rw[e]at q;exact q
  refine⟨_,rfl,_,_,rfl,rfl,_,rfl,?_⟩;refine gm (fun h1=>?_) (fun h1=>?_)
  ·have TR:=aH h1;refine⟨_,rfl,_,rfl,k,_,rfl,by rw[<- ea];exact fO.k (k:=kN n) KK.at_,a,_,dx,_,_,rfl,eI,T.dh,T.yF,rfl,ls,_,rfl,.inl (cI.of el),_,_,rfl,rfl,_,rfl,?_⟩;rw[ai,NK];by_cases h2:j<=(I.lines.length:Int)
   ·rw[aC h2];have hlt:j.toNat-1<I.lines.length:=by omega
    rw[ao (by omega),aM hlt]at q;have hy:I.lines[j.toNat-1]? =some I.lines[j.toNat-1]:=aM hlt;generalize I.lines[j.toNat-1]=y at hy q;have q:oW (if c=10 then AF S (n,j.toNat) y else AG S (n,j.toNat)) H Q:=q;have ej:j=((j.toNat:Nat):Int):=by omega
    have hmem:((n,j.toNat),y)∈placed S:=by
     refine List.mem_flatMap.mpr ⟨I,XX,?_⟩;have:=DO hy;rw[hIn,show j.toNat-1+1=j.toNat by omega]at this;exact bW this
    refine cg ⟨_,rfl,rfl,_,rfl,?_⟩;rw[show(V.int (10:Int))=V.int ((10:Nat):Int)from rfl,pM];refine gm (fun h3=>?_) (fun h3=>?_)
    ·have h3':=aH h3;rw[aB h3']at q;refine⟨_,rfl,k,S,rfl,hK,fun H1 l hl s1 hS=>?_⟩;refine⟨_,rfl,_,rfl,by show 2<=sizeLine;decide,fun p hp=>?_⟩;refine⟨l,S,p,(n,j.toNat),y,rfl,hS.same (aO hp),ok,?_,hmem,tE.of q (s1.trans (aO hp))⟩;rw[aj,ej];rfl
    ·have h3':¬c=10:=fun z=>h3 (aC z);rw[ao h3']at q;refine⟨_,rfl,k,S,rfl,hK,fun H1 l hl s1 hS=>?_⟩;refine⟨_,rfl,_,rfl,by show 2<=sizeLine;decide,fun p hp=>?_⟩;refine⟨l,S,p,(n,j.toNat),rfl,hS.same (aO hp),ok,?_,tE.of q (s1.trans (aO hp))⟩;rw[aj,ej];rfl
   ·rw[aK h2];have b:=bad (by rw[ao (by omega),ql (by omega)]);exact cW ⟨by show 1<=sizeLine;decide,fun u hu=>b _ u hu (aO hu) aj⟩
  ·have TR:¬((1:Int)<=j):=fun z=>h1 (aC z);have b:=bad (by rw[aB (by omega)]);exact⟨_,rfl,cW ⟨by show 1<=sizeLine;decide,fun u hu=>b _ u hu (aO hu) aj⟩⟩
theorem Ld{H:Hp}{k:Addr}{S:List Issue}{kvs:List (Key×V)}(KK:DZ A H k S kvs)(i:Int):Um A (wA H k) (dc kvs (Sum.inl i)) (BF S i):=by
 unfold BF;by_cases h:i<0
 ·rw[aB h];cases e:dc kvs (Sum.inl i)with
  |none=>exact rfl
  |some v=>
   have:=C1 e;obtain⟨kv,h1,h2⟩:=List.mem_map.mp this;obtain⟨n,hn⟩:=KK.keys.2 kv h1;rw[h2]at hn;injection hn with hn
   omega
 ·rw[ao h];have e:(Sum.inl i:Key)=kN i.toNat:=by show Sum.inl i=Sum.inl ((i.toNat:Nat):Int);rw[Ei (by omega)]
  rw[e];exact KK.val i.toNat
inductive Uu:Nat->List Int->Int->Int->Prop
 |Rt (i j:Int):Uu 10 [i,j] i j
 |Ru (i j:Int):Uu 11 [i,j] i j
 |Rv (i:Int):Uu 14 [i] i 0
 |Rw (i:Int):Uu 15 [i] i 0
 |Rx (i:Int):Uu 18 [i] i 0
def WY(A:Ad):Sp:=fun vs H Q _=>∃k S a,∃(c:Nat) (ns:List Int) (i j:Int),vs=[.ref k,.int (c:Nat),.ref a]/\dW A H k S/\H a=some (.lst (ns.map V.int))/\Uu c ns i j/\Ef A k H (HZ S c i j).1 (HZ S c i j).2 Q
theorem WZ(T:gQ K mg A):Fn P w K mg base ig 6 "answer_about_issue" ["known","call","numbers"] (WY A):=T.rE.fn fun f fd F=>by
 refine F.ok iu (fun vs H Q E h=>?_) (fun cdv A' outer s H vs Q E hr h=>?_)
 ·obtain⟨k,S,a,c,ns,i,j,rfl,_⟩:=h;rfl
 ·obtain⟨k,S,a,c,ns,i,j,rfl,hK,ha,sh,q⟩:=h;obtain⟨ok,kvs,KK⟩:=id hK;have kv:=Ld KK i;have h0:RY (ns.map V.int) 0=some (.int i):=by cases sh<;>exact cB (j:=0) rfl
  refine⟨_,ay (bH (i:=3) iu.nd rfl (Or.inl rfl) (fJ gR (pv 2) aY (fun _ _=>rfl)))
   (ay (b7 (qx (oF (eL hr) (pv 3) (pv 0))) (aD (aW (b6 (ah (dS T.xV) aA)))) bC)
   (ay (bH (i:=4) iu.nd rfl (Or.inl rfl) (gc (eL hr) (pv 0) (pv 3) (fun _ _=>rfl)))
   (ay (b7 (bz l0 (pv 1) (Cb T.Td) rfl) (aD (aW (bI (WX T) hr bx (ah (pv 0) (ah (pv 1) (ah (pv 3) (ah (fJ gR (pv 2) aY (fun _ _=>rfl)) aA))))))) bC)
   (ay (b7 (bz gk (pv 1) aY (bM _)) (aD (aW (eB jY (b6 (ah aY aA)) (bY (pv 4) rfl)))) bC)
   (ay (b7 (bz gk (pv 1) aY (bM _)) (aD (aW (bI (QC T) hr bx (ah (pv 0) (ah (pv 3) aA))))) bC)
   (aD (aW (b6 (ah (bY (pv 4) rfl) (ah (fX T.bn (bY (pv 4) rfl)) aA)))))))))),?_⟩
  refine sq fun N0 n0=>⟨_,rfl,a,_,_,_,rfl,rfl,cI.of ha,h0,n0 _ _ (sq fun N1 n1=>?_)⟩
  refine⟨_,rfl,_,rfl,k,_,rfl,fO.k (k:=Sum.inl i) KK.at_,_,rfl,?_⟩;unfold HZ at q;cases hi:BF S i with
  |none=>
   rw[hi]at kv q;have kv:dc kvs (Sum.inl i)=none:=kv;rw[kv];exact cW ⟨by show 1<=sizeLine;decide,fun u hu=>q.new hK _ u hu (aO hu) aj⟩
  |some I=>
   rw[hi]at kv q;obtain⟨ia,ea,hA⟩:=kv;rw[ea];obtain⟨tx,⟨dx,ls,eI,OJ,el,pl⟩,htx⟩:=hA.same AK;have NK:OJ.length=I.lines.length:=bg pl;obtain⟨hI,hnum,hin⟩:issueAt S I.num=some I/\I∈S/\i=(I.num:Int):=by
    unfold BF at hi;split at hi
    ·cases hi
    ·obtain⟨m,e⟩:=rR hi;exact⟨by rw[e];exact hi,m,by omega⟩
   refine cg (n1 _ _ (sq fun N2 n2=>⟨_,rfl,_,rfl,k,_,rfl,by rw[<- ea];exact fO.k (k:=Sum.inl i) KK.at_,n2 _ _ (sq fun N3 n3=>?_)⟩));refine⟨_,rfl,fun tA hT=>⟨tA,_,rfl,.inr (hT _),rfl,rfl,_,rfl,?_⟩⟩;subst hin;cases sh with
   |Rt i j=>
    refine cW ⟨_,rfl,_,rfl,_,rfl,_,rfl,a,_,_,_,rfl,rfl,cI.of ha,cB (j:=1) rfl,k,S,I,10,I.num,j,rfl,hK,hI,.inl rfl,q.new hK⟩
   |Ru i j=>
    refine cW ⟨_,rfl,_,rfl,_,rfl,_,rfl,a,_,_,_,rfl,rfl,cI.of ha,cB (j:=1) rfl,k,S,I,11,I.num,j,rfl,hK,hI,.inr rfl,q.new hK⟩
   |Rv i=>
    have q:Ef A k H S (0::Vbptan.ints I.text) Q:=q;refine cg (n3 _ _ (sq fun N4 n4=>⟨_,rfl,rfl,_,rfl,cW ⟨by show 1<=sizeLine;decide,fun r hr'=>?_⟩⟩));have s2:=aO (o:=.lst [.int 0]) hr';refine⟨_,rfl,ia,_,dx,_,_,rfl,s2 _ _ eI,T.dh,T.Dl,rfl,r,tx,_,_,rfl,rfl,aj,s2 _ _ htx,?_,fun u hu=>q.new hK _ u (s2.free hu) (s2.trans (aO hu)) ?_⟩
    ·rw[cF];have:=(ok.all I hnum).text;show 1+_<=2 ^ 24;omega
    ·rw[aj,aV,oj];rfl
   |Rw i=>
    refine cg (n3 _ _ (sq fun N4 n4=>⟨_,rfl,rfl,_,rfl,cg (n4 _ _ (sq fun N5 n5=>⟨_,rfl,rfl,_,rfl,cW ⟨_,rfl,_,rfl,k,S,I,I.num,rfl,hK,hI,q⟩⟩))⟩))
   |Rx i=>
    have q:Ef A k H S [(I.day:Int),(I.lines.length:Int)] Q:=q;refine cg (n3 _ _ (sq fun N4 n4=>⟨_,rfl,rfl,_,rfl,cg (n4 _ _ (sq fun N5 n5=>⟨_,rfl,rfl,_,rfl,cg (n5 _ _ ?_)⟩))⟩));refine⟨_,rfl,ia,_,dx,_,_,rfl,eI,T.dh,T.Cf,rfl,_,rfl,ia,_,dx,_,_,rfl,eI,T.dh,T.yF,rfl,ls,_,rfl,.inl (cI.of el),by show 2<=sizeLine;decide,fun u hu=>q.new hK _ u hu (aO hu) ?_⟩;rw[aj,ai,NK];rfl
inductive Uv:Nat->List Nat->List Int->Prop
 |c0 (t:List Nat):t.length<=2000->Uv 0 [] (qt t)
 |c1 (t:List Nat):t.length<=2000->Uv 1 [] (qt t)
 |c12 (n d:Nat) (t:List Nat):n<=99->d<=100000->t.length<=2000->Uv 12 [n,d] (qt t)
 |OM (ls:List Int):ls.length<=2000->Uv 16 [] ls
 |ON (c:Nat) (t:List Nat):t.length<=2000->Uv 17 [c] (qt t)
theorem vY(t:List Nat):(qt t).map Int.toNat=t:=by
 rw[cX];have:(Int.toNat ∘ fun n:Nat=>(n:Int))=id:=by funext n;exact cJ n
 rw[this,List.map_id]
def W0(A:Ad):Sp:=fun vs H Q _=>∃k S a b,∃(c:Nat) (ns:List Nat) (ls:List Int),vs=[.ref k,.int (c:Nat),.ref a,.ref b]/\dW A H k S/\H a=some (.lst (zs ns))/\H b=some (.lst (ls.map V.int))/\Uv c ns ls/\Ef A k H (Ga S c ns ls).1 (Ga S c ns ls).2 Q
theorem W6(T:gQ K mg A):Fn P w K mg base ig 11 "answer_with_list" ["known","call","numbers","listed"] (W0 A):=T.uz.fn fun f fd F=>by
 refine F.ok uv (fun vs H Q E h=>?_) (fun cdv A' outer s H vs Q E hr h=>?_)
 ·obtain⟨k,S,a,b,c,ns,ls,rfl,_⟩:=h;rfl
 ·obtain⟨k,S,a,b,c,ns,ls,rfl,hK,ha,hb,sh,q⟩:=h;refine⟨_,ay (b7 (bz gk (pv 1) aY (bM _)) (aD (aW (bI (Qz T) hr bx (ah (pv 0) (ah (pv 3) aA))))) bC)
   (ay (b7 (bz gk (pv 1) aY (bM _)) (aD (aW (bI (Om T) hr bx (ah (pv 3) aA)))) bC)
   (ay (b7 (bz gk (pv 1) aY (bM _)) (aD (aW (bI (Oo T) hr bx (ah (fJ gR (pv 2) aY (fun _ _=>rfl)) (ah (fJ gR (pv 2) aY (fun _ _=>rfl)) (ah (pv 3) aA)))))) bC)
   (ay (b7 (bz gk (pv 1) aY (bM _)) (aD (aW (bI (WU T) hr bx (ah (pv 0) (ah (pv 3) aA))))) bC)
   (aD (aW (bI (HW T) hr bx (ah (bI (mY T) hr bx (ah (pv 0) aA)) (ah (fJ gR (pv 2) aY (fun _ _=>rfl)) (ah (pv 3) aA))))))))),?_⟩
  have ok:=hK.1;unfold Ga at q;cases sh with
  |c0 t ht=>
   rw[vY]at q;rw[ua]at hb;exact⟨_,rfl,rfl,_,rfl,cW ⟨_,rfl,_,rfl,k,S,b,t,rfl,hK,hb,ht,q⟩⟩
  |c1 t ht=>
   rw[vY]at q;rw[ua]at hb;exact⟨_,rfl,rfl,_,rfl,cg ⟨_,rfl,rfl,_,rfl,cW ⟨_,rfl,b,t,rfl,hb,ht,q.new hK⟩⟩⟩
  |c12 n d t hn hd ht=>
   rw[vY]at q;rw[ua]at hb;refine⟨_,rfl,rfl,_,rfl,cg ⟨_,rfl,rfl,_,rfl,cg ⟨_,rfl,rfl,_,rfl,cW ?_⟩⟩⟩;exact⟨_,rfl,a,_,_,_,rfl,rfl,cI.of ha,cB (j:=0) rfl,_,rfl,a,_,_,_,rfl,rfl,cI.of ha,cB (j:=1) rfl,_,rfl,b,t,n,d,rfl,hb,ht,hn,hd,q.new hK⟩
  |OM ls hl=>
   refine⟨_,rfl,rfl,_,rfl,cg ⟨_,rfl,rfl,_,rfl,cg ⟨_,rfl,rfl,_,rfl,cg ⟨_,rfl,rfl,_,rfl,cW ?_⟩⟩⟩⟩;exact⟨_,rfl,_,rfl,k,S,b,ls,rfl,hK,hb,hl,q.new hK⟩
  |ON c t ht=>
   rw[vY]at q;rw[ua]at hb;refine⟨_,rfl,rfl,_,rfl,cg ⟨_,rfl,rfl,_,rfl,cg ⟨_,rfl,rfl,_,rfl,cg ⟨_,rfl,rfl,_,rfl,cg ?_⟩⟩⟩⟩;refine⟨_,rfl,k,S,rfl,hK,fun H1 l hl s1 hS=>?_⟩;exact⟨_,rfl,a,_,_,_,rfl,rfl,cI.of (s1 _ _ ha),cB (j:=0) rfl,_,rfl,l,S,b,t,c,rfl,hS,ok,s1 _ _ hb,tE.of (q.new hK) s1⟩
def Xa(A:Ad):Sp:=fun vs H Q _=>∃l S,∃c:Nat,vs=[.ref l,.int (c:Nat)]/\dF A H l S/\rM S/\(c=2\/c=3\/c=6\/c=19)/\oW (allR S c) H Q
theorem Xb(T:gQ K mg A):Fn P w K mg base ig 7 "answer_about_all" ["issues","call"] (Xa A):=T.uA.fn fun f fd F=>by
 refine F.ok jf (fun vs H Q E h=>?_) (fun cdv A' outer s H vs Q E hr h=>?_)
 ·obtain⟨l,S,c,rfl,_⟩:=h;rfl
 ·obtain⟨l,S,c,rfl,hI,ok,hc,q⟩:=h;refine⟨_,ay (b7 (bz gk (pv 1) aY (bM _)) (aD (aW (eB jY (b6 (ah aY aA)) (oB (own:=[("issue",2)]) (te:=LQ K (cT 2) "number") rfl jf.nd (fG (pv 0)) (fM (by kernel_rfl)) (fun _ _ _ _ _=>b8 (i:=2) jf.nd rfl (Or.inl rfl)) (fun _ _ _ _ _=>lU) (fun _ _ _ _ _=>by exact bY (pv 2) rfl))))) bC)
   (ay (b7 (bz gk (pv 1) aY (bM _)) (aD (aW (eB jY (b6 (ah aY aA)) (bI (Jr T) hr bx (ah (pv 0) aA))))) bC)
   (ay (b7 (bz gk (pv 1) aY (bM _)) (aD (aW (bI (Oa T) hr bx (ah (pv 0) aA)))) bC)
   (aD (aW (bI (Oe T) hr bx (ah (pv 0) aA)))))),?_⟩
  unfold allR at q;rcases hc with rfl|rfl|rfl|rfl
  ·obtain⟨as,hl,hp⟩:=hI;refine⟨_,rfl,rfl,_,rfl,cW ⟨by show 1<=sizeLine;decide,fun r hr'=>?_⟩⟩;have s1:=aO (o:=.lst [.int 0]) hr';refine⟨_,rfl,l,rfl,⟨_,cI.of (s1 _ _ hl)⟩,fun D hD=>?_⟩;refine jA (K:=K) (a:=l) (xs:=as.map V.ref) (fun i H'=>bF (upd H r (.lst [.int 0])) H'/\H' D=some (.lst (zs ((S.map fun x=>x.num).take i)))) ⟨aO hD,aj⟩ (fun i H' _ ⟨z,_⟩=>cI.of (z _ _ (s1 _ _ hl))) (fun i x H' hi ⟨z1,z2⟩=>?_) (fun H' ⟨z1,z2⟩=>?_)
   ·obtain⟨a,ha,rfl⟩:=rO hi;obtain⟨I,hI',tx,⟨dx,ls,eI,_⟩,_⟩:=dm hp ha;refine⟨rfl,_,rfl,a,_,dx,_,_,rfl,z1 _ _ (s1 _ _ eI),T.dh,T.gr,rfl,rK hD z1 z2 ?_ ?_⟩
    ·rw[cF,b4,ai];have:=ok.few;show min _ _<2 ^ 24;omega
    ·have hn:(S.map fun x=>x.num)[i]? =some I.num:=by rw[bf,hI'];rfl
     rw[dO hn];show List.map _ _=_;rw[aX];rfl
   ·rw[bN (by rw[ai,ai,bg hp];exact aq _)]at z2;refine⟨r,D,_,_,rfl,rfl,z1 _ _ aj,z2,?_,fun u hu=>q _ u ((s1.trans z1).free hu) (s1.trans (z1.trans (aO hu))) ?_⟩
    ·rw[cF,ai];have:=ok.few;show 1+_<=2 ^ 24;omega
    ·rw[aj];show some (HO.lst ([V.int 0]++zs (S.map fun x=>x.num)))=some (HO.lst (V.int 0::(Vbptan.ints (S.map fun x=>x.num)).map V.int));rw[oj];rfl
  ·refine⟨_,rfl,rfl,_,rfl,cg ⟨_,rfl,rfl,_,rfl,cW ⟨by show 1<=sizeLine;decide,fun r hr'=>?_⟩⟩⟩;have s1:=aO (o:=.lst [.int 0]) hr';refine⟨_,rfl,l,S,rfl,hI.same s1,ok,fun H1 g hg s2 h2=>?_⟩;refine⟨r,g,_,_,rfl,rfl,s2 _ _ aj,h2,?_,fun u hu=>q _ u ((s1.trans s2).free hu) (s1.trans (s2.trans (aO hu))) ?_⟩
   ·rw[cF];have:=uD S (Vbptan.last S);have:=DT ok;show 1+(rN S (Vbptan.last S)).length<=2 ^ 24;omega
   ·rw[aj];show some (HO.lst ([V.int 0]++zs (gaps S)))=some (HO.lst (V.int 0::(Vbptan.ints (gaps S)).map V.int));rw[oj];rfl
  ·exact⟨_,rfl,rfl,_,rfl,cg ⟨_,rfl,rfl,_,rfl,cg ⟨_,rfl,rfl,_,rfl,cW ⟨_,rfl,l,S,rfl,hI,ok,q⟩⟩⟩⟩
  ·exact⟨_,rfl,rfl,_,rfl,cg ⟨_,rfl,rfl,_,rfl,cg ⟨_,rfl,rfl,_,rfl,cg ⟨_,rfl,l,S,rfl,hI,ok,q⟩⟩⟩⟩
end
section
variable{X:Cx}
def Xc(K:PySem.W.Frag)(i:Nat):TE:=fun σ H Q=>∃c:Nat,σ[i]? =some (some (.int (c:Nat)))/\c<20/\∀b,M4 K b (CK c)->Q (.ref b) H
theorem JE{i:Expr}{j:Nat}{p pos:Pos}(h:GR X.K X.mg)(hi:PE X i (cT j))(hs:O4 i)(hg:Gl X "RANGES":=by rfl):PE X (.Subscript (.Name "RANGES" p) i pos) (Xc X.K j):=by
 obtain⟨a,es,kt,hm,hv⟩:=h;intro pins s σ H Q I ⟨c,hσ,hc,k⟩;obtain⟨b,hb,hr⟩:=hv c hc;have g:=Pj (p:=p) (pos:=pos) kt hg hm hi hs;exact g pins s σ H Q I ⟨_,hσ,(c:Int),b,rfl,hb,k b hr⟩
end
section
variable{P:Program}{w:World}{K:PySem.W.Frag}{mg:Str->Option Value}{base:Heap}{A:Ad}{CX:nZ}
def Xd:Sp:=fun vs H Q _=>∃a,∃(c:Nat) (ns:List Int),vs=[.int (c:Nat),.ref a]/\c<20/\H a=some (.lst (ns.map V.int))/\ns.length=(CK c).length/\∀H',bF H H'->Q (.bl (vX ns (CK c))) H'
theorem Uw(T:gQ K mg A):Fn P w K mg base ig 1 "out_of_range" ["call","numbers"] Xd:=T.Ai.fn fun f fd F=>by
 refine F.ok mS (fun vs H Q E h=>?_) (fun cdv A' outer s H vs Q E hr h=>?_)
 ·obtain⟨a,c,ns,rfl,_⟩:=h;rfl
 ·obtain⟨a,c,ns,rfl,hc,ha,hl,k⟩:=h;refine⟨_,ay (i9 cH rfl (Ph rfl T.bn.Zg (ah (pv 1) (ah (JE T.Fq (pv 0) (fun _ _=>rfl)) aA))) (nY rfl (dN (b8 (i:=2) mS.nd rfl (Or.inl rfl)) (dN (b8 (i:=3) mS.nd rfl (Or.inl rfl)) kC)))
    (aD (b7 (PW.pt (nX (bz CP (pv 3) mq (bM _)) (nv (mw (yZ ny ny (fJ iQ (pv 3) aY (fun _ _=>rfl)) (pv 2) (fJ iQ (pv 3) aY (fun _ _=>rfl))))))) (aD (aW mj)) bC)))
   (aD (aW mj)),?_⟩
  refine⟨_,rfl,c,rfl,hc,fun b hb=>?_⟩;obtain⟨vs,hb1,hb2⟩:=hb;have adx:vs.length=(CK c).length:=bg hb2;refine⟨a,b,_,_,rfl,cI.of ha,hb1 _,?_⟩;generalize hR:CK c=R at *;refine wR ns.length (fun i σ H'=>(∃v2 v3:Option V,σ=[some (.int (c:Nat)),some (.ref a),v2,v3])/\bF H H'/\((ns.zip R).take i).any (fun x=>gP x.1 x.2)=false) ⟨⟨none,none,rfl⟩,bF.refl _,rfl⟩ (fun i σ H' hi ⟨⟨v2,v3,e0⟩,sm,hno⟩=>?_) (fun σ H' ⟨⟨v2,v3,e0⟩,sm,hno⟩=>?_)
  ·subst e0;have hx:(ns.map V.int)[i]? =some (.int ns[i]):=by rw[bf,aM hi];rfl
   have hiR:i<R.length:=by omega
   have hiv:i<vs.length:=by omega
   have hv:vs[i]? =some vs[i]:=aM hiv;have hsl:=cI.of (K:=K) (sm _ _ ha);refine⟨⟨_,_,_,_,hsl,hb1 _,hx,hv⟩,fun x xW y=>?_⟩;obtain⟨T',x',y',rfl,hT,rfl,g1,g2⟩:=y;have e1:=g1 _ hsl;rw[hx]at e1;cases e1;have e2:=g2 _ (hb1 _);rw[hv]at e2;obtain⟨bd,hbd,hB⟩:=dm hb2 hv;cases e2;generalize ns[i]=n at *;generalize vs[i]=vv at *;have hz:(ns.zip R)[i]? =some (n,bd):=by
    rw[List.getElem?_zip_eq_some];refine⟨?_,hbd⟩;rw[bf]at hx;obtain⟨m,hm,e⟩:=Option.map_eq_some_iff.mp hx;rw[hm];injection e with e
    rw[e]
   have s4:=aO (o:=.tup [.int n,vv]) hT;have step:((ns.zip R).take (i+1)).any (fun x=>gP x.1 x.2)=gP n bd:=by
    rw[dO hz,List.any_append,hno,lS,ff,List.any_nil,g9]
   have yes:gP n bd=true->Q (.bl true) (upd H' T' (.tup [.int n,vv])):=fun h=>by
    have q:=k _ (sm.trans s4);have:vX ns R=true:=by
     unfold vX;rw[lB];exact⟨(n,bd),bW hz,h⟩
    rw[this]at q;exact q
   refine⟨T',_,rfl,lD.of aj,rfl,_,_,rfl,_,_,rfl,rfl,?_⟩;refine⟨_,rfl,rfl,_,rfl,?_⟩;cases bd with
   |none=>
    obtain rfl:vv=.dY:=hB;exact cg (cg ⟨⟨_,_,rfl⟩,sm.trans s4,step.trans rfl⟩)
   |some p=>
    obtain⟨tA,rfl,hT2⟩:=hB;refine cW ⟨_,rfl,tA,_,_,_,rfl,rfl,hT2 _,cB (j:=0) rfl,_,rfl,_,_,rfl,rfl,_,rfl,?_⟩;have e3:gP n (some p)= !(decide (p.1<=n)&&decide (n<=p.2)):=rfl;rw[e3]at yes step;by_cases h1:p.1<=n
    ·rw[aC h1,g8]at yes step;rw[aC h1];refine cW ⟨_,rfl,tA,_,_,_,rfl,rfl,hT2 _,cB (j:=1) rfl,_,_,rfl,rfl,_,rfl,?_⟩;by_cases h2:n<=p.2
     ·rw[aC h2]at step ⊢;exact cg ⟨⟨_,_,rfl⟩,sm.trans s4,step⟩
     ·rw[aK h2]at yes ⊢;exact cW (yes rfl)
    ·rw[aK h1,jX]at yes;rw[aK h1];exact cg ⟨_,rfl,cW (yes rfl)⟩
  ·subst e0;refine⟨⟨_,_,cI.of (sm _ _ ha),hb1 _,by rw[ai];exact aq _⟩,?_⟩;rw[bN (by rw[List.length_zip];omega)]at hno;have q:=k _ sm;unfold vX at q;rw[hno]at q;exact q
inductive uK:Nat->List Int->List Int->Prop
 |c0 (t:List Int):t.length<=2000->uK 0 [] t
 |c1 (t:List Int):t.length<=2000->uK 1 [] t
 |c2:uK 2 [] []
 |c3:uK 3 [] []
 |c4 (f:Int):uK 4 [f] []
 |c5 (f c:Int):uK 5 [f,c] []
 |c6:uK 6 [] []
 |c7 (f:Int):uK 7 [f] []
 |c8 (f n:Int):uK 8 [f,n] []
 |c9 (f n:Int):uK 9 [f,n] []
 |Rt (i j:Int):uK 10 [i,j] []
 |Ru (i j:Int):uK 11 [i,j] []
 |c12 (n d:Int) (t:List Int):t.length<=2000->uK 12 [n,d] t
 |Rr (f:Int):uK 13 [f] []
 |Rv (i:Int):uK 14 [i] []
 |Rw (i:Int):uK 15 [i] []
 |OM (t:List Int):t.length<=2000->uK 16 [] t
 |ON (c:Int) (t:List Int):t.length<=2000->uK 17 [c] t
 |Rx (i:Int):uK 18 [i] []
 |XY:uK 19 [] []
def yt(c:Nat)(l:List Int):Bool:=decide ((c:Int)∈l)
def dM(b:Int):Bool:= !(decide (0<=b)&&decide (b<=255))
abbrev toN(ns:List Int):List Nat:=ns.map Int.toNat
def rV(S:List Issue)(c:Nat)(ns ls:List Int):List Issue×List Int:=
 if vX ns (CK c)=true then(S,[-3])else if(yt c [0,1,12,17]&&ls.any dM)=true then(S,[-1])else
 if yt c [0,1,12,16,17]=true then Ga S c (toN ns) ls else if yt c [10,11,14,15,18]=true then HZ S c (ns.getD 0 0) (ns.getD 1 0)else
 if yt c [4,5,7,8,9,13]=true then(S,Oq S c (toN ns))else(S,allR S c)
theorem uK.lt{c:Nat}{ns ls:List Int}(h:uK c ns ls):c<20/\ns.length=(CK c).length:=by cases h<;>exact⟨by decide,rfl⟩
theorem Xe{a b:Int}{p q:Int×Int}(h:vX [a,b] [some p,some q]=false):(p.1<=a/\a<=p.2)/\(q.1<=b/\b<=q.2):=by
 have h:(!(decide (p.1<=a)&&decide (a<=p.2))||(!(decide (q.1<=b)&&decide (b<=q.2))||false))=false:=h;rw[g9,Bool.or_eq_false_iff,ue,ue,bB,bB,aZ,aZ,aZ,aZ]at h;exact h
theorem Xf{a:Int}{p:Int×Int}(h:vX [a] [some p]=false):p.1<=a/\a<=p.2:=by
 have h:(!(decide (p.1<=a)&&decide (a<=p.2))||false)=false:=h;rw[g9,ue,bB,aZ,aZ]at h;exact h
theorem D4{ns:List Int}(h:∀n∈ns,0<=n):zs (toN ns)=ns.map V.int:=by
 rw[<- ua,cX,cX];exact List.map_congr_left fun n hn=>by show V.int ((n.toNat:Nat):Int)=V.int n;rw[Ei (h n hn)]
theorem yK{ns:List Int}(h:∀n∈ns,0<=n):qt (toN ns)=ns:=by
 show List.map _ (List.map _ ns)=ns;rw[cX];have:ns.map ((fun n:Nat=>(n:Int)) ∘ Int.toNat)=ns.map id:=List.map_congr_left fun n hn=>by show((n.toNat:Nat):Int)=n;rw[Ei (h n hn)]
 rw[this,List.map_id]
theorem vZ{ls:List Int}(h:ls.any dM=false):∀n∈ls,0<=n:=fun n hn=>by
 have:=List.any_eq_false.mp h n hn;unfold dM at this;rw[gz,ue,bB,aZ,aZ]at this;exact this.1
theorem JF{c:Nat}{ns ls:List Int}(h:uK c ns ls)(ho:vX ns (CK c)=false)(hb:(yt c [0,1,12,17]&&ls.any dM)=false)(hl:yt c [0,1,12,16,17]=true):Uv c (toN ns) ls/\zs (toN ns)=ns.map V.int:=by
 cases h with
 |c0 t ht=>
  have hb:ls.any dM=false:=hb;refine⟨?_,rfl⟩;rw[<- yK (vZ hb)];exact .c0 _ (by rw[ai];exact ht)
 |c1 t ht=>
  have hb:ls.any dM=false:=hb;refine⟨?_,rfl⟩;rw[<- yK (vZ hb)];exact .c1 _ (by rw[ai];exact ht)
 |c12 n d t ht=>
  have hb:ls.any dM=false:=hb;obtain⟨h1,h2⟩:=Xe ho;have h1:1<=n/\n<=99:=h1;have h2:0<=d/\d<=100000:=h2;refine⟨?_,D4 fun x hx=>?_⟩
  ·rw[<- yK (vZ hb)];exact .c12 _ _ _ (by omega) (by omega) (by rw[ai];exact ht)
  ·rcases List.mem_cons.mp hx with rfl|hx
   ·omega
   ·rw[List.mem_singleton.mp hx];exact h2.1
 |OM t ht=>exact⟨.OM _ ht,rfl⟩
 |ON n t ht=>
  have hb:ls.any dM=false:=hb;have h1:10<=n/\n<=99:=Xf ho;refine⟨?_,D4 fun x hx=>by rw[List.mem_singleton.mp hx];omega⟩;rw[<- yK (vZ hb)];exact .ON _ _ (by rw[ai];exact ht)
 |_=>exact absurd hl (by decide)
theorem Ot{c:Nat}{ns ls:List Int}(h:uK c ns ls)(hl:yt c [10,11,14,15,18]=true):Uu c ns (ns.getD 0 0) (ns.getD 1 0):=by
 cases h with
 |Rt i j=>exact .Rt i j
 |Ru i j=>exact .Ru i j
 |Rv i=>exact .Rv i
 |Rw i=>exact .Rw i
 |Rx i=>exact .Rx i
 |_=>exact absurd hl (by decide)
theorem JG{c:Nat}{ns ls:List Int}(h:uK c ns ls)(ho:vX ns (CK c)=false)(hl:yt c [4,5,7,8,9,13]=true):Rq c (toN ns)/\zs (toN ns)=ns.map V.int:=by
 have two:∀{a b:Int} {p q:Int×Int},vX [a,b] [some p,some q]=false->0<=p.1->0<=q.1->zs (toN [a,b])=[a,b].map V.int:=fun h1 hp hq=>D4 fun x hx=>by
  have:=Xe h1;rcases List.mem_cons.mp hx with rfl|hx
  ·omega
  ·rw[List.mem_singleton.mp hx];omega
 have one:∀{a:Int} {p:Int×Int},vX [a] [some p]=false->0<=p.1->zs (toN [a])=[a].map V.int:=fun h1 hp=>D4 fun x hx=>by
  have:=Xf h1;rw[List.mem_singleton.mp hx];omega
 cases h with
 |c4 f=>exact⟨.c4 _,one ho (by decide)⟩
 |c5 f c=>exact⟨.c5 _ _,two ho (by decide) (by decide)⟩
 |c7 f=>exact⟨.c7 _,one ho (by decide)⟩
 |c8 f c=>exact⟨.c8 _ _,two ho (by decide) (by decide)⟩
 |c9 f c=>exact⟨.c9 _ _,two ho (by decide) (by decide)⟩
 |Rr f=>exact⟨.Rr _,one ho (by decide)⟩
 |c0 _ _=>exact absurd hl (by decide)
 |c1 _ _=>exact absurd hl (by decide)
 |c2=>exact absurd hl (by decide)
 |c3=>exact absurd hl (by decide)
 |c6=>exact absurd hl (by decide)
 |Rt _ _=>exact absurd hl (by decide)
 |Ru _ _=>exact absurd hl (by decide)
 |c12 _ _ _ _=>exact absurd hl (by decide)
 |Rv _=>exact absurd hl (by decide)
 |Rw _=>exact absurd hl (by decide)
 |OM _ _=>exact absurd hl (by decide)
 |ON _ _ _=>exact absurd hl (by decide)
 |Rx _=>exact absurd hl (by decide)
 |XY=>exact absurd hl (by decide)
theorem Ou{c:Nat}{ns ls:List Int}(h:uK c ns ls)(h1:¬yt c [0,1,12,16,17]=true)(h2:¬yt c [10,11,14,15,18]=true)(h3:¬yt c [4,5,7,8,9,13]=true):c=2\/c=3\/c=6\/c=19:=by
 cases h with
 |c2=>exact .inl rfl
 |c3=>exact .inr (.inl rfl)
 |c6=>exact .inr (.inr (.inl rfl))
 |XY=>exact .inr (.inr (.inr rfl))
 |c0 _ _=>exact absurd (by decide) h1
 |c1 _ _=>exact absurd (by decide) h1
 |c12 _ _ _ _=>exact absurd (by decide) h1
 |OM _ _=>exact absurd (by decide) h1
 |ON _ _ _=>exact absurd (by decide) h1
 |Rt _ _=>exact absurd (by decide) h2
 |Ru _ _=>exact absurd (by decide) h2
 |Rv _=>exact absurd (by decide) h2
 |Rw _=>exact absurd (by decide) h2
 |Rx _=>exact absurd (by decide) h2
 |c4 _=>exact absurd (by decide) h3
 |c5 _ _=>exact absurd (by decide) h3
 |c7 _=>exact absurd (by decide) h3
 |c8 _ _=>exact absurd (by decide) h3
 |c9 _ _=>exact absurd (by decide) h3
 |Rr _=>exact absurd (by decide) h3
def Gb(A:Ad):Sp:=fun vs H Q _=>∃k S a b,∃(c:Nat) (ns ls:List Int),vs=[.ref k,.int (c:Nat),.ref a,.ref b]/\dW A H k S/\H a=some (.lst (ns.map V.int))/\H b=some (.lst (ls.map V.int))/\uK c ns ls/\ls.length<=2000/\Ef A k H (rV S c ns ls).1 (rV S c ns ls).2 Q
theorem Le(T:gQ K mg A):Fn P w K mg base ig 12 "answer" ["known","call","numbers","listed"] (Gb A):=T.Nc.fn fun f fd F=>by
 refine F.ok zZ (fun vs H Q E h=>?_) (fun cdv A' outer s H vs Q E hr h=>?_)
 ·obtain⟨k,S,a,b,c,ns,ls,rfl,_⟩:=h;rfl
 ·obtain⟨k,S,a,b,c,ns,ls,rfl,hK,ha,hb,sh,hll,q⟩:=h;refine⟨_,ay (b7 (ie (bI (Uw T) hr bx (ah (pv 1) (ah (pv 2) aA)))) (aD (aW (b6 (ah (dS T.Ak) aA)))) bC)
   (ay (b7 (PW.pt (nX (bz l0 (pv 1) (Cb T.PY) rfl) (nv (ie (eU (LZ rfl) rfl T.bn.We PyProof.Rows.Boot.«any» (ah (oB (own:=[("byte",4)]) rfl zZ.nd (fG (pv 3)) (fM (by kernel_rfl)) (fun _ _ _ _ _=>b8 (i:=4) zZ.nd rfl (Or.inl rfl)) (fun _ _ _ _ _=>lU)
    (fun _ _ _ _ _=>RM (yY ny ny aY (pv 4) aY))) aA)))))) (aD (aW (b6 (ah (dS T.KP) aA)))) bC)
   (ay (b7 (bz l0 (pv 1) (Cb T.M9) rfl) (aD (aW (bI (W6 T) hr bx (ah (pv 0) (ah (pv 1) (ah (pv 2) (ah (pv 3) aA))))))) bC)
   (ay (b7 (bz l0 (pv 1) (Cb T.PZ) rfl) (aD (aW (bI (WZ T) hr bx (ah (pv 0) (ah (pv 1) (ah (pv 2) aA)))))) bC)
   (ay (b7 (bz l0 (pv 1) (Cb T.Tc) rfl) (aD (aW (bI (WW T) hr bx (ah (bI (mY T) hr bx (ah (pv 0) aA)) (ah (pv 1) (ah (pv 2) aA)))))) bC)
   (aD (aW (bI (Xb T) hr bx (ah (bI (mY T) hr bx (ah (pv 0) aA)) (ah (pv 1) aA))))))))),?_⟩
  have ok:=hK.1;obtain⟨hc,hlen⟩:=sh.lt;refine⟨_,rfl,_,rfl,a,c,ns,rfl,hc,ha,hlen,fun H1 s1=>⟨_,rfl,?_⟩⟩;unfold rV at q;have q:=q.of s1;have OL:=hK.same s1;have ha1:=s1 _ _ ha;have hb1:=s1 _ _ hb;by_cases ho:vX ns (CK c)=true
  ·rw[aB ho]at q;rw[ho];exact cW ⟨by show 1<=sizeLine;decide,fun u hu=>q.new OL _ u hu (aO hu) aj⟩
  ·rw[ao ho]at q;have ho':vX ns (CK c)=false:=gz _ ▸ ho;rw[ho'];refine cg ⟨_,rfl,fun tA hT=>⟨tA,_,rfl,.inr (hT _),rfl,jk _,_,rfl,?_⟩⟩;have rest:∀H2,bF H1 H2->(yt c [0,1,12,17]&&ls.any dM)=false->
     CO (LG (p6 (En (Q6 K false) (cT 1) (XM K [0,1,12,16,17]))) (sW (lF (W0 A) [] E0 (cE (cT 0) (cE (cT 1) (cE (cT 2) (cE (cT 3) fW)))))) El)
     (CO (LG (p6 (En (Q6 K false) (cT 1) (XM K [10,11,14,15,18]))) (sW (lF (WY A) [] E0 (cE (cT 0) (cE (cT 1) (cE (cT 2) fW))))) El)
     (CO (LG (p6 (En (Q6 K false) (cT 1) (XM K [4,5,7,8,9,13]))) (sW (lF (WV A) [] E0 (cE (lF (D0 A) [] E0 (cE (cT 0) fW)) (cE (cT 1) (cE (cT 2) fW))))) El)
      (sW (lF (Xa A) [] E0 (cE (lF (D0 A) [] E0 (cE (cT 0) fW)) (cE (cT 1) fW)))))) {nx:=fun _ H'=>Q .dY H',rt:=Q} [some (.ref k),some (.int (c:Nat)),some (.ref a),some (.ref b),none] H2:=fun H2 s2 XZ=>by
    rw[XZ,ao (by intro z;cases z)]at q;have q:=q.of s2;have Lb:=OL.same s2;have ha2:=s2 _ _ ha1;have hb2:=s2 _ _ hb1;refine⟨_,rfl,fun tB hT=>⟨tB,_,rfl,.inr (hT _),rfl,jk _,_,rfl,?_⟩⟩;show if Lu (.int (c:Int)) (List.map V.int [0,1,12,16,17])=true then _ else _
    rw[nL];refine gm (fun h1=>?_) (fun h1=>?_)
    ·have h1:yt c [0,1,12,16,17]=true:=h1;rw[aB h1]at q;obtain⟨shl,ez⟩:=JF sh ho' XZ h1;exact⟨_,rfl,_,rfl,_,rfl,_,rfl,k,S,a,b,c,toN ns,ls,rfl,Lb,by rw[ez];exact ha2,hb2,shl,q⟩
    ·have h1:¬yt c [0,1,12,16,17]=true:=h1;rw[ao h1]at q;refine⟨_,rfl,fun tB hT=>⟨tB,_,rfl,.inr (hT _),rfl,jk _,_,rfl,?_⟩⟩;show if Lu (.int (c:Int)) (List.map V.int [10,11,14,15,18])=true then _ else _
     rw[nL];refine gm (fun h2=>?_) (fun h2=>?_)
     ·have h2:yt c [10,11,14,15,18]=true:=h2;rw[aB h2]at q;exact⟨_,rfl,_,rfl,_,rfl,k,S,a,c,ns,_,_,rfl,Lb,ha2,Ot sh h2,q⟩
     ·have h2:¬yt c [10,11,14,15,18]=true:=h2;rw[ao h2]at q;refine⟨_,rfl,fun tB hT=>⟨tB,_,rfl,.inr (hT _),rfl,jk _,_,rfl,?_⟩⟩;show if Lu (.int (c:Int)) (List.map V.int [4,5,7,8,9,13])=true then _ else _
      rw[nL];refine gm (fun h3=>?_) (fun h3=>?_)
      ·have h3:yt c [4,5,7,8,9,13]=true:=h3;rw[aB h3]at q;obtain⟨ZZ,ez⟩:=JG sh ho' h3;refine⟨_,rfl,k,S,rfl,Lb,fun H3 l hl s3 hS=>?_⟩;exact⟨_,rfl,_,rfl,l,S,a,toN ns,c,rfl,hS,ok,by rw[ez];exact s3 _ _ ha2,ZZ,tE.of (q.new Lb) s3⟩
      ·have h3:¬yt c [4,5,7,8,9,13]=true:=h3;rw[ao h3]at q;refine⟨_,rfl,k,S,rfl,Lb,fun H3 l hl s3 hS=>?_⟩;exact⟨_,rfl,l,S,c,rfl,hS,ok,Ou sh h1 h2 h3,tE.of (q.new Lb) s3⟩
   show if Lu (.int (c:Int)) (List.map V.int [0,1,12,17])=true then _ else _
   rw[nL];refine gm (fun h1=>?_) (fun h1=>?_)
   ·have h1:yt c [0,1,12,17]=true:=h1;rw[h1,g8]at q rest;refine⟨_,rfl,b,rfl,⟨_,cI.of hb1⟩,fun D hD=>?_⟩;refine jA (K:=K) (a:=b) (xs:=ls.map V.int) (fun i H'=>bF H1 H'/\H' D=some (.lst (((ls.take i).map dM).map V.bl))) ⟨aO hD,aj⟩ (fun i H' _ ⟨z,_⟩=>cI.of (z _ _ hb1)) (fun i x H' hi ⟨z1,z2⟩=>?_) (fun H' ⟨z1,z2⟩=>?_)
    ·rw[bf]at hi;obtain⟨m,hm,rfl⟩:=Option.map_eq_some_iff.mp hi;have fin:∀g:Bool,g=dM m->∃acc,H' D=some (.lst acc)/\acc.length<sizeLine/\(bF H1 (upd H' D (.lst (acc++[V.bl g])))/\upd H' D (.lst (acc++[V.bl g])) D=some (.lst (((ls.take (i+1)).map dM).map V.bl))):=fun g hg=>by
      refine rK hD z1 z2 ?_ ?_
      ·rw[ai,ai,b4];show min _ _<2 ^ 24;omega
      ·rw[dO hm,aX,aX,hg];rfl
     refine⟨rfl,_,rfl,_,_,rfl,rfl,_,rfl,?_⟩;by_cases h2:(0:Int)<=m
     ·rw[aC h2];refine cW ⟨_,_,rfl,rfl,_,rfl,fin _ ?_⟩;unfold dM;rw[aC h2,g8]
     ·rw[aK h2];refine cg ⟨_,rfl,fin _ ?_⟩;unfold dM;rw[aK h2,jX]
    ·rw[ai,bL]at z2;refine⟨D,_,rfl,cI.of z2,_,rfl,?_⟩;have e9:((ls.map dM).any id)=ls.any dM:=by rw[List.any_map];rfl
     rw[e9];by_cases h2:ls.any dM=true
     ·rw[h2]at q ⊢;rw[aB rfl]at q;exact cW ⟨by show 1<=sizeLine;decide,fun u hu=>(q.of z1).new (OL.same z1) _ u hu (aO hu) aj⟩
     ·have h2':ls.any dM=false:=gz _ ▸ h2;rw[h2'];exact cg (rest H' z1 h2')
   ·have h1:¬yt c [0,1,12,17]=true:=h1;refine cg (rest H1 (bF.refl _) ?_);rw[gz]at h1;rw[h1,jX]
end
end Gz
namespace Gz
open Vbptan
theorem cu{α β:Type}{x:Except Nat α}{f g:α->Except Nat β}(h:∀a,x=.ok a->f a=g a):x >>=f=x >>=g:=by
 cases x with
 |error p=>rfl
 |ok a=>exact h a rfl
theorem bK{α β γ:Type}(x:Except Nat α)(f:α->Except Nat β)(g:β->Except Nat γ):(x >>=f) >>=g=x >>=fun a=>f a >>=g:=by
 cases x<;>rfl
theorem Ov{e:Nat}{b:List Nat}{ws:List Word}(h:ahead b ws=false):must e b ws=.error (ws.headD (e,[])).1:=by
 cases ws with
 |nil=>rfl
 |cons w r=>
  have h:(w.2==b)=false:=h;show(if w.2=b then _ else _)=_;rw[ao (beq_eq_false_iff_ne.mp h)];rfl
theorem Cw{γ:Type}{e:Nat} :∀(f least:Nat) (ws:List Word) (g:Fields×List Word->Unit×List Word->Except Nat γ),
  (fieldsFrom e f least ws >>=fun z=>must e NL z.2 >>=g z)=(gT e f least ws >>=fun z=>must e NL z.2 >>=g z)
 |0,_,_,_=>rfl
 |f+1,least,ws,g=>by
  cases ws with
  |nil=>rfl
  |cons w r=>
   unfold fieldsFrom gT;by_cases h:ahead NL (w::r)=true
   ·rw[aB (.inr h),aB h];rfl
   ·rw[ao (by rintro (z|z);cases z;exact h z),ao h];have L:(do
      let (c,ws) <- number e least 99 (w::r)
      let (v,ws) <- value e ws
      let (l,ws) <- fieldsFrom e f (c+1) ws
      pure ((c,v)::l,ws):Except Nat (Fields×List Word))=number e least 99 (w::r) >>=fun x=>value e x.2 >>=fun y=>fieldsFrom e f (x.1+1) y.2 >>=fun z=>.ok ((x.1,y.1)::z.1,z.2):=rfl
    rw[L,bK,bK];refine cu fun x _=>?_;rw[bK,bK];refine cu fun y _=>?_;rw[bK,bK];exact Cw f (x.1+1) y.2 fun z=>g ((x.1,y.1)::z.1,z.2)
theorem gH(b:List Nat)(w:Word)(r:List Word):ahead b (w::r)=decide (w.2=b):=by
 show(w.2==b)=_;by_cases h:w.2=b
 ·rw[aC h];exact beq_iff_eq.mpr h
 ·rw[aK h];exact beq_eq_false_iff_ne.mpr h
theorem Cy{γ:Type}{e:Nat}(ws:List Word)(g:Simple×List Word->Unit×List Word->Except Nat γ):
  (simple e ws >>=fun z=>must e NL z.2 >>=g z)=(iG e ws >>=fun z=>must e NL z.2 >>=g z):=by
 cases ws with
 |nil=>rfl
 |cons w r=>
  unfold iG;rw[gH,gH];show((if w.2=W "new" then(number e 1 FILES r >>=fun x=>fieldsFrom e (x.2.length+1) 10 x.2 >>=fun z=>.ok (Simple.new x.1 z.1,z.2))else if w.2=W "set" then(number e 1 FILES r >>=fun x=>number e 10 99 x.2 >>=fun y=>value e y.2 >>=fun z=>.ok (Simple.set x.1 y.1 z.1,z.2))else if w.2=W "drop" then(number e 1 FILES r >>=fun x=>.ok (Simple.drop x.1,x.2))else .error w.1) >>=fun z=>must e NL z.2 >>=g z)=_;by_cases h1:w.2=W "new"
  ·rw[aB h1,aB (aC h1)];unfold Tw;rw[bK];show _=(number e 1 FILES r >>=_) >>=_;rw[bK];refine cu fun x _=>?_;rw[bK,bK];exact Cw (x.2.length+1) 10 x.2 fun z=>g (Simple.new x.1 z.1,z.2)
  ·rw[ao h1,ao (fun z=>h1 (aH z))];by_cases h2:w.2=W "set"
   ·rw[aB h2,aB (aC h2)];rfl
   ·rw[ao h2,ao (fun z=>h2 (aH z))];show _=((if w.2=W "drop" then Except.ok ((),r)else Except.error w.1) >>=fun x=>Nu e x.2) >>=_;by_cases h3:w.2=W "drop"
    ·rw[aB h3,aB h3];rfl
    ·rw[ao h3,ao h3];rfl
theorem D5{γ:Type}{e n k:Nat}(ws:List Word)(g:Line×List Word->Unit×List Word->Except Nat γ):
  (line e n k ws >>=fun z=>must e NL z.2 >>=g z)=(mU e n k ws >>=fun z=>must e NL z.2 >>=g z):=by
 cases ws with
 |nil=>rfl
 |cons w r=>
  unfold mU;rw[gH,gH];show((if w.2=W "fix" then(BE e n k r >>=fun x=>must e (W "with") x.2 >>=fun y=>simple e y.2 >>=fun z=>.ok (Line.fix x.1 z.1,z.2))else if w.2=W "void" then(BE e n k r >>=fun x=>.ok (Line.void x.1,x.2))else(simple e (w::r) >>=fun x=>.ok (Line.simple x.1,x.2))) >>=fun z=>must e NL z.2 >>=g z)=_;by_cases h1:w.2=W "void"
  ·have h2:¬w.2=W "fix":=by rw[h1];decide +kernel
   rw[ao h2,aB h1,aB (aC h1)];rfl
  ·rw[ao (c:=w.2=W "void") h1,ao (fun z=>h1 (aH z))];by_cases h2:w.2=W "fix"
   ·rw[aB h2,aB (aC h2),bK,bK];show(BE e n k r >>=_)=(BE e n k r >>=_);refine cu fun x _=>?_;rw[bK,bK];refine cu fun y _=>?_;rw[bK,bK];exact Cy y.2 fun z=>g (Line.fix x.1 z.1,z.2)
   ·rw[ao h2,ao (fun z=>h2 (aH z)),bK,bK];exact Cy (w::r) fun z=>g (Line.simple z.1,z.2)
theorem gI{e lo hi:Nat}{ws:List Word}{x:Nat×List Word}(h:number e lo hi ws=.ok x):x.2 <:+ws:=by
 cases ws with
 |nil=>cases h
 |cons w r=>
  have h:(match numberOf lo hi w.2 with
   |some n=>Except.ok (n,r)
   |none=>Except.error w.1)=Except.ok x:=h
  split at h
  ·injection h with h;rw[<- h];exact List.suffix_cons _ _
  ·cases h
theorem Cz{e:Nat}{ws:List Word}{x:List Nat×List Word}(h:value e ws=.ok x):x.2 <:+ws:=by
 cases ws with
 |nil=>cases h
 |cons w r=>
  have h:(if isValue w.2=true then Except.ok (w.2,r)else Except.error w.1)=Except.ok x:=h;split at h
  ·injection h with h;rw[<- h];exact List.suffix_cons _ _
  ·cases h
theorem Gd{e:Nat}{b:List Nat}{ws:List Word}{x:Unit×List Word}(h:must e b ws=.ok x):∃w,ws=w::x.2/\w.2=b:=by
 cases ws with
 |nil=>cases h
 |cons w r=>
  have h:(if w.2=b then Except.ok ((),r)else Except.error w.1)=Except.ok x:=h;split at h
  ·rename_i c;injection h with h;rw[<- h];exact⟨w,rfl,c⟩
  ·cases h
theorem kr{e:Nat}{b:List Nat}{ws:List Word}{x:Unit×List Word}(h:must e b ws=.ok x):x.2 <:+ws:=by
 obtain⟨w,e,_⟩:=Gd h;rw[e];exact List.suffix_cons _ _
theorem AM{e:Nat} :∀{f least:Nat} {ws:List Word} {x:Fields×List Word},gT e f least ws=.ok x->x.2 <:+ws
 |0,_,_,_,h=>by cases h
 |f+1,least,ws,x,h=>by
  unfold gT at h;split at h
  ·injection h with h;rw[<- h];exact List.suffix_refl _
  ·obtain⟨a,ha,h⟩:=bA h;obtain⟨b,hb,h⟩:=bA h;obtain⟨c,hc,h⟩:=bA h;injection h with h;rw[<- h];exact(AM hc).trans ((Cz hb).trans (gI ha))
theorem v9(ws:List Word):ws.tail <:+ws:=List.tail_suffix ws
theorem AN{e:Nat}{ws:List Word}{x:Simple×List Word}(h:iG e ws=.ok x):x.2 <:+ws:=by
 unfold iG at h;split at h
 ·obtain⟨a,ha,h⟩:=bA h;obtain⟨b,hb,h⟩:=bA h;injection h with h;rw[<- h];exact(AM hb).trans ((gI ha).trans (v9 ws))
 ·split at h
  ·obtain⟨a,ha,h⟩:=bA h;obtain⟨b,hb,h⟩:=bA h;obtain⟨c,hc,h⟩:=bA h;injection h with h;rw[<- h];exact(Cz hc).trans ((gI hb).trans ((gI ha).trans (v9 ws)))
  ·obtain⟨a,ha,h⟩:=bA h;obtain⟨b,hb,h⟩:=bA h;injection h with h;rw[<- h];exact(gI hb).trans (kr ha)
theorem JH{e n k:Nat}{ws:List Word}{x:(Nat×Nat)×List Word}(h:BE e n k ws=.ok x):x.2 <:+ws:=by
 obtain⟨a,ha,h⟩:=bA h;obtain⟨b,hb,h⟩:=bA h;injection h with h;rw[<- h];exact(gI hb).trans (gI ha)
theorem Ge{e n k:Nat}{ws:List Word}{x:Line×List Word}(h:mU e n k ws=.ok x):x.2 <:+ws:=by
 unfold mU at h;split at h
 ·obtain⟨a,ha,h⟩:=bA h;injection h with h;rw[<- h];exact(JH ha).trans (v9 ws)
 ·split at h
  ·obtain⟨a,ha,h⟩:=bA h;obtain⟨b,hb,h⟩:=bA h;obtain⟨c,hc,h⟩:=bA h;injection h with h;rw[<- h];exact(AN hc).trans ((kr hb).trans ((JH ha).trans (v9 ws)))
  ·obtain⟨a,ha,h⟩:=bA h;injection h with h;rw[<- h];exact AN ha
theorem JI:∀(p:Nat) (t:List Nat) (x:Word),x∈cut p t->p<=x.1/\x.1+x.2.length<=p+t.length
 |p,[],x,h=>by
  have h:x∈[(p,[])]:=h;rw[List.mem_singleton.mp h];exact⟨aq _,aq _⟩
 |p,c::r,x,h=>by
  have ih:=JI (p+1) r;by_cases h1:c=32
  ·subst h1;rw[l5]at h;rcases List.mem_cons.mp h with rfl|h
   ·exact⟨aq _,kI _ _⟩
   ·have:=ih x h;rw[az];omega
  ·by_cases h2:c=10
   ·subst h2;rw[wW]at h;rcases List.mem_cons.mp h with rfl|h
    ·exact⟨aq _,kI _ _⟩
    ·rcases List.mem_cons.mp h with rfl|h
     ·exact⟨aq _,by show p+1<=p+(r.length+1);omega⟩
     ·have:=ih x h;rw[az];omega
   ·rw[l6 h1 h2]at h;obtain⟨v,l,e⟩:=vn (p+1) r;rw[e]at h;have h:x∈(p,[c]++v)::l:=h;rcases List.mem_cons.mp h with rfl|h
    ·have:=ih (p+1,v) (by rw[e];exact aL);refine⟨aq _,?_⟩;show p+(v.length+1)<=p+(r.length+1);have:p+1+v.length<=p+1+r.length:=this.2;omega
    ·have:=ih x (by rw[e];exact aG _ h);rw[az];omega
theorem wc:∀(p:Nat) (t:List Nat) (w:Word) (r:List Word),(w::r) <:+cut p t->(r=[]->w.1+w.2.length=p+t.length/\w.2≠NL)/\(r≠[]->w.1<p+t.length)
 |p,[],w,r,h=>by
  have h:(w::r) <:+ [(p,[])]:=h;rw[kW]at h;rcases h with h|h
  ·injection h with h1 h2;subst h1 h2;exact⟨fun _=>⟨rfl,by intro z;cases z⟩,fun z=>absurd rfl z⟩
  ·rw[List.suffix_nil]at h;cases h
 |p,c::t,w,r,h=>by
  have ih:=wc (p+1) t w r;have fit:((r=[]->w.1+w.2.length=p+1+t.length/\w.2≠NL)/\(r≠[]->w.1<p+1+t.length))->((r=[]->w.1+w.2.length=p+(c::t).length/\w.2≠NL)/\(r≠[]->w.1<p+(c::t).length)):=fun q=>by
   rw[az];exact⟨fun z=>⟨by have:=(q.1 z).1;omega,(q.1 z).2⟩,fun z=>by have:=q.2 z;omega⟩
  by_cases h1:c=32
  ·subst h1;rw[l5,kW]at h;rcases h with h|h
   ·injection h with e1 e2;subst e1 e2;exact⟨fun z=>absurd z (zS _ _),fun _=>by show p<p+(t.length+1);omega⟩
   ·exact fit (ih h)
  ·by_cases h2:c=10
   ·subst h2;rw[wW,kW]at h;rcases h with h|h
    ·injection h with e1 e2;subst e1 e2;exact⟨(fun z=>by cases z),fun _=>by show p<p+(t.length+1);omega⟩
    ·rw[kW]at h;rcases h with h|h
     ·injection h with e1 e2;subst e1 e2;exact⟨fun z=>absurd z (zS _ _),fun _=>by show p<p+(t.length+1);omega⟩
     ·exact fit (ih h)
   ·rw[l6 h1 h2]at h;obtain⟨v,l,e⟩:=vn (p+1) t;rw[e]at h;have h:(w::r) <:+(p,[c]++v)::l:=h;rw[kW]at h;rcases h with h|h
    ·injection h with e1 e2;subst e1 e2;have q:=wc (p+1) t (p+1,v) r (by rw[e];exact List.suffix_refl _);refine⟨fun z=>⟨?_,?_⟩,fun z=>?_⟩
     ·have:=(q.1 z).1;have this:p+1+v.length=p+1+t.length:=this;show p+(v.length+1)=p+(t.length+1);omega
     ·intro y;have y:c::v=[10]:=y;injection y with y _
      exact h2 y
     ·show p<p+(t.length+1);omega
    ·exact fit (ih (by rw[e];exact List.suffix_cons_iff.mpr (.inr h)))
theorem JJ{e n k:Nat}{w:Word}{r:List Word}(h1:w.2≠W "fix")(h2:w.2≠W "void")(h3:w.2≠W "new")(h4:w.2≠W "set")(h5:w.2≠W "drop"):mU e n k (w::r)=.error w.1:=by
 unfold mU;rw[gH,gH,ao (fun z=>h2 (aH z)),ao (fun z=>h1 (aH z))];unfold iG;rw[gH,gH,ao (fun z=>h3 (aH z)),ao (fun z=>h4 (aH z))];show(((if w.2=W "drop" then Except.ok ((),r)else Except.error w.1) >>=_) >>=_)=_;rw[ao h5];rfl
theorem Ia{e n k:Nat}{w:Word}{r:List Word}(h:w.2=[]):mU e n k (w::r)=.error w.1:=
 JJ (by rw[h];decide +kernel) (by rw[h];decide +kernel) (by rw[h];decide +kernel) (by rw[h];decide +kernel) (by rw[h];decide +kernel)
theorem Ib{e n k:Nat}{w:Word}{r:List Word}(h:w.2=W "close"):mU e n k (w::r)=.error w.1:=
 JJ (by rw[h];decide +kernel) (by rw[h];decide +kernel) (by rw[h];decide +kernel) (by rw[h];decide +kernel) (by rw[h];decide +kernel)
theorem Gf{γ:Type}{e n:Nat} :∀(f k:Nat) (ws:List Word) (g:List Line×List Word->Unit×List Word->Except Nat γ),(∀w∈ws,w.1+w.2.length<=e)->
  (linesFrom e n f k ws >>=fun l=>must e (W "close") l.2 >>=g l)=(gE e n f k ws >>=fun l=>must e (W "close") l.2 >>=g l)
 |0,_,_,_,_=>rfl
 |f+1,k,ws,g,hb=>by
  unfold linesFrom gE;by_cases h1:ahead (W "close") ws=true
  ·rw[aB h1];by_cases h2:40<k
   ·rw[aB h2];rfl
   ·rw[ao h2,aB h1];rfl
  ·rw[ao h1,ao h1];have TR:ahead (W "close") ws=false:=gz _ ▸ h1;have em:=Ov (e:=e) TR;by_cases h2:40<k
   ·rw[aB (show LINES<k from h2),aB h2];show Except.error _=(must e (W "close") ws >>=g ([],ws));rw[em];rfl
   ·rw[ao (show ¬LINES<k from h2),ao h2];have L:(do
      let (x,ws) <- line e n k ws
      let (_,ws) <- must e NL ws
      let (l,ws) <- linesFrom e n f (k+1) ws
      pure (x::l,ws):Except Nat (List Line×List Word))=line e n k ws >>=fun x=>must e NL x.2 >>=fun y=>linesFrom e n f (k+1) y.2 >>=fun z=>.ok (x.1::z.1,z.2):=rfl
    rw[L];by_cases h3:gD e ws=true
    ·rw[aB h3];show _=(must e (W "close") ws >>=g ([],ws));rw[em,D5];have h3:=aH h3;cases ws with
     |nil=>rfl
     |cons w r=>
      have h3:w.1=e:=h3;have:=hb w aL;have h0:w.2=[]:=cZ (by omega);rw[Ia h0];rfl
    ·rw[ao h3,D5,bK,bK];refine cu fun x hx=>?_;rw[bK,bK];refine cu fun y hy=>?_;rw[bK,bK];exact Gf f (k+1) y.2 (fun z=>g (x.1::z.1,z.2)) fun w hw=>hb w ((Ge hx).subset ((kr hy).subset hw))
theorem D6(t:List Nat):readParts t=mV t:=by
 have bnd:∀w∈cut 0 t,w.1+w.2.length<=t.length:=fun w hw=>by have:=(JI 0 t w hw).2;omega
 show(must t.length (W "gazette") (cut 0 t) >>=fun a=>number t.length 1 99 a.2 >>=fun n=>must t.length (W "of") n.2 >>=fun b=>number t.length 0 100000 b.2 >>=fun d=>must t.length NL d.2 >>=fun c=>
  linesFrom t.length n.1 (c.2.length+1) 1 c.2 >>=fun l=>must t.length (W "close") l.2 >>=fun x=>number t.length 0 LINES x.2 >>=fun cn=>number t.length 0 (MODULUS-1) cn.2 >>=fun ck=>
  (match ck.2 with
   |[]=>.ok ({num:=n.1,day:=d.1,lines:=l.1,text:=t},cn.1,ck.1,(l.2.headD (t.length,[])).1)
   |w::_=>.error w.1:Except Nat (Issue×Nat×Nat×Nat)))=_
 unfold mV;refine cu fun a ha=>?_;refine cu fun n hn=>?_;refine cu fun b hb=>?_;refine cu fun d hd=>?_;refine cu fun c hc=>?_;have sub:c.2 <:+cut 0 t:=(kr hc).trans ((gI hd).trans ((kr hb).trans ((gI hn).trans (kr ha))));rw[Gf _ _ _ (fun l x=>number t.length 0 LINES x.2 >>=fun cn=>number t.length 0 (MODULUS-1) cn.2 >>=fun ck=>
  (match ck.2 with
   |[]=>.ok ({num:=n.1,day:=d.1,lines:=l.1,text:=t},cn.1,ck.1,(l.2.headD (t.length,[])).1)
   |w::_=>.error w.1:Except Nat (Issue×Nat×Nat×Nat))) fun w hw=>bnd w (sub.subset hw)]
 refine cu fun l hl=>?_;refine cu fun x hx=>?_;refine cu fun cn hcn=>?_;refine cu fun ck hck=>?_;cases ck.2 with
 |nil=>rfl
 |cons w r=>rfl
theorem Rz{n:Nat}{t:List Nat} :∀(f k:Nat) (ws:List Word),ws <:+cut 0 t->ws.length<f->ws≠[]->gD t.length ws=false->1<=k->
  bodyLines.go n t.length f k ws=(gE t.length n f k ws >>=fun l=>if gD t.length l.2=true then .ok (k-1+l.1.length)else .error (l.2.headD (t.length,[])).1)
 |0,_,_,_,h,_,_,_=>absurd h (lY _)
 |f+1,k,ws,sf,hf,hne,hp,hk=>by
  unfold bodyLines.go gE;by_cases h2:40<k
  ·rw[aB (show LINES<k from h2),aB h2];show _=(if gD t.length ws=true then _ else _);rw[hp];rfl
  ·rw[ao (show ¬LINES<k from h2),ao h2];have L:(do
     let (_,ws) <- line t.length n k ws
     let (_,ws) <- must t.length NL ws
     if(ws.map fun w=>w.2)=[[]]then return k else bodyLines.go n t.length f (k+1) ws:Except Nat Nat)=line t.length n k ws >>=fun x=>must t.length NL x.2 >>=fun y=>if(y.2.map fun w=>w.2)=[[]]then .ok k else bodyLines.go n t.length f (k+1) y.2:=rfl
   rw[L,D5];cases ws with
   |nil=>exact absurd rfl hne
   |cons w r=>
    by_cases h1:ahead (W "close") (w::r)=true
    ·rw[aB h1];rw[gH]at h1;rw[Ib (aH h1)];show _=(if gD t.length (w::r)=true then _ else _);rw[hp];rfl
    ·rw[ao h1,ao (by rw[hp];intro z;cases z),bK];refine cu fun x hx=>?_;rw[bK];refine cu fun y hy=>?_;rw[bK];have sx:=Ge hx;obtain⟨nw,enw,hnl⟩:=Gd hy;have Z0:x.2 <:+cut 0 t:=sx.trans sf;have sfy:y.2 <:+cut 0 t:=(kr hy).trans Z0;have Xg:y.2≠[]:=fun z=>by
      rw[enw,z]at Z0;exact(wc 0 t nw [] Z0).1 rfl |>.2 hnl
     have lx:x.2.length<=(w::r).length:=FN hx;have ly:y.2.length+1=x.2.length:=vQ hy;obtain⟨v,q,ey⟩:∃v q,y.2=v::q:=by
      cases e:y.2 with
      |nil=>exact absurd e Xg
      |cons v q=>exact⟨v,q,rfl⟩
     have cl:=wc 0 t v q (by rw[<- ey];exact sfy);have hpe:gD t.length y.2=true↔(y.2.map fun w=>w.2)=[[]]:=by
      rw[ey];unfold gD;rw[aZ];show v.1=t.length↔v.2::q.map (fun w=>w.2)=[[]];constructor
      ·intro h;have hq:q=[]:=by
        by_cases z:q=[]
        ·exact z
        ·have:=cl.2 z;omega
       have:=(cl.1 hq).1;rw[hq,cZ (l:=v.2) (by omega)];rfl
      ·intro h;injection h with h1 h2
       have hq:q=[]:=List.map_eq_nil_iff.mp h2;have:=(cl.1 hq).1;rw[h1]at this;have this:v.1+0=0+t.length:=this;omega
     by_cases X0:gD t.length y.2=true
     ·rw[aB (hpe.mp X0)];obtain⟨g,rfl⟩:∃g,f=g+1:=⟨f-1,by rw[az]at hf;omega⟩
      have e9:gE t.length n (g+1) (k+1) y.2=.ok ([],y.2):=by
       unfold gE;split
       ·rfl
       ·split
        ·rfl
        ·rfl
      rw[e9];show _=(if gD t.length y.2=true then Except.ok (k-1+1)else _);rw[aB X0,show k-1+1=k by omega]
     ·have Z1:gD t.length y.2=false:=gz _ ▸ X0;rw[ao (fun z=>X0 (hpe.mpr z)),Rz f (k+1) y.2 sfy (by rw[az]at hf lx;omega) Xg Z1 (by omega)];refine cu fun l hl=>?_;show _=(if gD t.length l.2=true then Except.ok (k-1+(l.1.length+1))else _);rw[show k+1-1+l.1.length=k-1+(l.1.length+1) by omega]
theorem QD(n:Nat)(t:List Nat):bodyLines n t=(n8 t n >>=fun ls=>.ok ls.length):=by
 unfold bodyLines n8;cases t with
 |nil=>rfl
 |cons c r=>
  rw[ao (by intro z;cases z),bK];show bodyLines.go n (c::r).length ((cut 0 (c::r)).length+1) 1 (cut 0 (c::r))=_;have hp:gD (c::r).length (cut 0 (c::r))=false:=by
   obtain⟨v,l,e⟩:=vn 0 (c::r);rw[e];unfold gD;exact aK (by show ¬(0=r.length+1);omega)
  rw[Rz _ 1 _ (List.suffix_refl _) (fC _) (zS _ _) hp (aq _)];refine cu fun l hl=>?_;by_cases h:gD (c::r).length l.2=true
  ·rw[aB h,aB h];show Except.ok (1-1+l.1.length)=Except.ok l.1.length;rw[yO,kG]
  ·rw[ao h,ao h];rfl
def rowsOf(c:Nat)(ns ls:List Int):List (List Int):=((c:Int)::ns)::if yt c [0,1,12,16,17]=true then [ls]else []
theorem we{t:List Int}(h:t.length<=2000):bytesIn t=if t.any dM=true then .error (-1)else .ok (t.map Int.toNat):=by
 unfold bytesIn;have e:t.all (fun c=>decide (0<=c/\c<=255))= !t.any dM:=by
  rw[List.not_any_eq_all_not];refine congrArg (List.all t) ?_;funext c;unfold dM;rw[Bool.not_not,cR,aZ,bB,aZ,aZ]
 rw[e];cases hb:t.any dM with
 |true=>rw[ao (fun z=>by have:=z.2;cases this),aB rfl]
 |false=>rw[aB ⟨h,rfl⟩,ao (by intro z;cases z)]
theorem AO{t:List Nat}{x:Issue×Nat×Nat×Nat}(h:mV t=.ok x):(Vbptan.judge t)=if iU t x then(0,0)else(2,0):=by
 unfold Vbptan.judge;rw[D6,h];rfl
theorem Lf{t:List Nat}{p:Nat}(h:mV t=.error p):(Vbptan.judge t)=(1,p):=by
 unfold Vbptan.judge;rw[D6,h]
abbrev stp(S:List Issue)(c:Call):State×Answer:=match act ⟨S⟩ c with
 | .ok x=>x
 | .error e=>(⟨S⟩,[e])
theorem xu{n lo hi:Int}(h:lo<=n/\n<=hi):Vbptan.num n lo hi=.ok n.toNat:=by unfold Vbptan.num;rw[aB h]
theorem sR{n lo hi:Int}(h:¬(lo<=n/\n<=hi)):Vbptan.num n lo hi=.error (-3):=by unfold Vbptan.num;rw[ao h]
theorem fc{n:Int}{p:Int×Int} :gP n (some p)=true↔¬(p.1<=n/\n<=p.2):=by
 show(!(decide (p.1<=n)&&decide (n<=p.2)))=true↔_;rw[Bool.not_eq_true',Bool.and_eq_false_iff,yf,yf];constructor
 ·rintro (h|h) ⟨h1,h2⟩
  ·exact h h1
  ·exact h h2
 ·intro h;by_cases h1:p.1<=n
  ·exact .inr fun h2=>h ⟨h1,h2⟩
  ·exact .inl h1
theorem UE{S:List Issue}{b:List Nat}{I:Issue}(hb:I.text=b):
  (match (match issueAt S I.num with
   |some y=>if y.text=b then .ok ((⟨S⟩:State),[(I.num:Int)])else .error (-6)
   |none=>need (S.all fun y=>if y.num<I.num then decide (y.day<=I.day)else decide (I.day<=y.day)) (-7) >>=fun _=>need (decide (S.length<ISSUES)) (-9) >>=fun _=>.ok (⟨putIssue I S⟩,[(I.num:Int)]):Res (State×Answer))with
  | .ok x=>x
  | .error e=>(⟨S⟩,[e]))=(⟨(tG S I).1⟩,(tG S I).2):=by
 unfold tG;cases issueAt S I.num with
 |some y=>
  rw[<- hb];by_cases h:y.text=I.text
  ·show(match (if y.text=I.text then _ else _:Res (State×Answer))with| .ok x=>x| .error e=>_)=(⟨S⟩,if y.text=I.text then _ else _);rw[aB h,aB h]
  ·show(match (if y.text=I.text then _ else _:Res (State×Answer))with| .ok x=>x| .error e=>_)=(⟨S⟩,if y.text=I.text then _ else _);rw[ao h,ao h]
 |none=>
  show(match (need (jK S I) (-7) >>=fun _=>need (decide (S.length<ISSUES)) (-9) >>=fun _=>.ok (⟨putIssue I S⟩,[(I.num:Int)]):Res (State×Answer))with| .ok x=>x| .error e=>(⟨S⟩,[e]))=_;unfold need;cases jK S I with
  |false=>rfl
  |true=>
   show(match ((if decide (S.length<24)=true then Except.ok ()else Except.error (-9)) >>=fun _=>.ok (⟨putIssue I S⟩,[(I.num:Int)]):Res (State×Answer))with| .ok x=>x| .error e=>(⟨S⟩,[e]))=((⟨(if S.length<24 then(putIssue I S,[(I.num:Int)])else(S,[-9])).1⟩:State),(if S.length<24 then(putIssue I S,[(I.num:Int)])else(S,[-9])).2);by_cases h:S.length<24
   ·rw[aC h,aB h];rfl
   ·rw[aK h,ao h];rfl
theorem Ow{S:List Issue}{t:List Int}(h:t.length<=2000):stp S (.take t)=(⟨(rV S 0 [] t).1⟩,(rV S 0 [] t).2):=by
 have e:rV S 0 [] t=if t.any dM=true then(S,[-1])else yc S (t.map Int.toNat):=rfl
 rw[e];unfold stp;show(match (bytesIn t >>=fun b=>(match readParts b with
  | .error p=>.error (-1000-(p:Int))
  | .ok x=>need ((Vbptan.judge b).1==0) (-2) >>=fun _=>match issueAt S x.1.num with
   |some y=>if y.text=b then .ok ((⟨S⟩:State),[(x.1.num:Int)])else .error (-6)
   |none=>need (S.all fun y=>if y.num<x.1.num then decide (y.day<=x.1.day)else decide (x.1.day<=y.day)) (-7) >>=fun _=>need (decide (S.length<ISSUES)) (-9) >>=fun _=>.ok (⟨putIssue x.1 S⟩,[(x.1.num:Int)]):Res (State×Answer)):Res (State×Answer))with
  | .ok x=>x
  | .error e=>(⟨S⟩,[e]))=_
 rw[we h];cases t.any dM with
 |true=>rfl
 |false=>
  rw[ao (by intro z;cases z),ao (by intro z;cases z)];generalize hb:t.map Int.toNat=b;have hl:b.length<=2000:=by rw[<- hb,ai];exact h
  show(match (match readParts b with
  | .error p=>.error (-1000-(p:Int))
  | .ok x=>need ((Vbptan.judge b).1==0) (-2) >>=fun _=>match issueAt S x.1.num with
   |some y=>if y.text=b then .ok ((⟨S⟩:State),[(x.1.num:Int)])else .error (-6)
   |none=>need (S.all fun y=>if y.num<x.1.num then decide (y.day<=x.1.day)else decide (x.1.day<=y.day)) (-7) >>=fun _=>need (decide (S.length<ISSUES)) (-9) >>=fun _=>.ok (⟨putIssue x.1 S⟩,[(x.1.num:Int)]):Res (State×Answer))with
  | .ok x=>x
  | .error e=>(⟨S⟩,[e]))=_
  unfold yc;rw[D6];cases hr:mV b with
  |error p=>rfl
  |ok x=>
   rw[AO hr];by_cases hg:iU b x
   ·rw[aB hg];show _=((⟨(if iU b x then tG S x.1 else(S,[-2])).1⟩:State),(if iU b x then tG S x.1 else(S,[-2])).2);rw[aB hg];exact UE (JB hr hl).2
   ·rw[ao hg];show _=((⟨(if iU b x then tG S x.1 else(S,[-2])).1⟩:State),(if iU b x then tG S x.1 else(S,[-2])).2);rw[ao hg];rfl
theorem Lg{S:List Issue}{t:List Int}(h:t.length<=2000):stp S (.judge t)=(⟨(rV S 1 [] t).1⟩,(rV S 1 [] t).2):=by
 have e:rV S 1 [] t=if t.any dM=true then(S,[-1])else(S,rS (t.map Int.toNat)):=rfl
 rw[e];unfold stp;show(match (bytesIn t >>=fun b=>.ok ((⟨S⟩:State),if(Vbptan.judge b).1=1 then Vbptan.ints [1,(Vbptan.judge b).2]else Vbptan.ints [(Vbptan.judge b).1]):Res (State×Answer))with
  | .ok x=>x
  | .error e=>(⟨S⟩,[e]))=_
 rw[we h];cases t.any dM with
 |true=>rfl
 |false=>
  rw[ao (by intro z;cases z),ao (by intro z;cases z)];generalize t.map Int.toNat=b;show((⟨S⟩:State),if(Vbptan.judge b).1=1 then Vbptan.ints [1,(Vbptan.judge b).2]else Vbptan.ints [(Vbptan.judge b).1])=(⟨S⟩,rS b);unfold rS;cases hr:mV b with
  |error p=>rw[Lf hr];rfl
  |ok x=>
   rw[AO hr];show _=(_,if iU b x then [0]else [2]);by_cases hg:iU b x
   ·rw[aB hg,aB hg];rfl
   ·rw[ao hg,ao hg];rfl
theorem Lh{S:List Issue}{n d:Int}{t:List Int}(h:t.length<=2000):stp S (.write n d t)=(⟨(rV S 12 [n,d] t).1⟩,(rV S 12 [n,d] t).2):=by
 have e:rV S 12 [n,d] t=if(gP n (some (1,99))||(gP d (some (0,100000))||false))=true then(S,[-3])else if t.any dM=true then(S,[-1])else(S,rT n.toNat d.toNat (t.map Int.toNat)):=rfl
 rw[e];unfold stp;show(match (Vbptan.num n 1 99 >>=fun n=>Vbptan.num d 0 100000 >>=fun d=>bytesIn t >>=fun b=>match bodyLines n b with
  | .error p=>.error (-1000-(p:Int))
  | .ok c=>.ok ((⟨S⟩:State),0::Vbptan.ints (sealed n d c b)):Res (State×Answer))with
  | .ok x=>x
  | .error e=>(⟨S⟩,[e]))=_
 by_cases h1:1<=n/\n<=99
 ·have o1:gP n (some (1,99))=false:=Bool.eq_false_iff.mpr fun z=>fc.mp z h1;rw[xu h1,o1,lS];by_cases h2:0<=d/\d<=100000
  ·have o2:gP d (some (0,100000))=false:=Bool.eq_false_iff.mpr fun z=>fc.mp z h2;rw[xu h2,o2,lS,ao (by intro z;cases z),we h];cases t.any dM with
   |true=>rfl
   |false=>
    rw[ao (by intro z;cases z),ao (by intro z;cases z)];generalize t.map Int.toNat=b;show(match (match bodyLines n.toNat b with
     | .error p=>.error (-1000-(p:Int))
     | .ok c=>.ok ((⟨S⟩:State),0::Vbptan.ints (sealed n.toNat d.toNat c b)):Res (State×Answer))with
     | .ok x=>x
     | .error e=>(⟨S⟩,[e]))=(⟨S⟩,rT n.toNat d.toNat b)
    unfold rT;rw[QD];cases n8 b n.toNat with
    |error p=>rfl
    |ok ls=>rfl
  ·have o2:gP d (some (0,100000))=true:=fc.mpr h2;rw[sR h2,o2];rfl
 ·have o1:gP n (some (1,99))=true:=fc.mpr h1;rw[sR h1,o1];rfl
theorem JK{S:List Issue}{n:Nat}(h:∀I∈S,I.num<=n):register S n=(effective (placed S)).foldl (fun r x=>done r x.2) []:=by
 unfold register;rw[List.filter_eq_self.mpr fun x hx=>?_];rw[iI]at hx;obtain⟨y,hy,e⟩:=List.mem_filterMap.mp hx;have e1:x.1=y.1:=by
  unfold qo at e;split at e
  ·obtain⟨t,_,e⟩:=Option.map_eq_some_iff.mp e;rw[<- e]
  ·cases e
 obtain⟨I,hI,hy⟩:=List.mem_flatMap.mp hy;have:=vV (I:=I) hy;have:=h I hI;exact aC (by rw[e1];omega)
abbrev fin(S:List Issue)(r:Res (State×Answer)):State×Answer:=match r with
 | .ok x=>x
 | .error e=>(⟨S⟩,[e])
abbrev pair(x:List Issue×List Int):State×Answer:=(⟨x.1⟩,x.2)
theorem Ic{S:List Issue}{f lo hi:Int}{h:Nat->Res (State×Answer)}{g:Nat->List Int}(hg:∀a,fin S (h a)=(⟨S⟩,g a)):
  fin S (Vbptan.num f lo hi >>=h)=pair (if(gP f (some (lo,hi))||false)=true then(S,[-3])else(S,g f.toNat)):=by
 rw[g9];by_cases h1:lo<=f/\f<=hi
 ·rw[xu h1,ao (fun z=>fc.mp z h1)];exact hg _
 ·rw[sR h1,aB (fc.mpr h1)];rfl
theorem Ie{S:List Issue}{f lo hi n lo' hi':Int}{h:Nat->Nat->Res (State×Answer)}{g:Nat->Nat->List Int}(hg:∀a b,fin S (h a b)=(⟨S⟩,g a b)):
  fin S (Vbptan.num f lo hi >>=fun a=>Vbptan.num n lo' hi' >>=fun b=>h a b)=pair (if(gP f (some (lo,hi))||(gP n (some (lo',hi'))||false))=true then(S,[-3])else(S,g f.toNat n.toNat)):=by
 rw[g9];by_cases h1:lo<=f/\f<=hi
 ·have o1:gP f (some (lo,hi))=false:=Bool.eq_false_iff.mpr fun z=>fc.mp z h1;rw[xu h1,o1,lS];show fin S (Vbptan.num n lo' hi' >>=fun b=>h f.toNat b)=_;by_cases h2:lo'<=n/\n<=hi'
  ·rw[xu h2,ao (fun z=>fc.mp z h2)];exact hg _ _
  ·rw[sR h2,aB (fc.mpr h2)];rfl
 ·rw[sR h1,fc.mpr h1];rfl
theorem QT{S:List Issue}(ok:rM S)(a b:Nat):fieldsTold (fileIn (register (upTo b S) b) a)=F5 S a b:=by
 unfold F5;rw[JK (S:=upTo b S) (n:=b) fun I hI=>aH (List.mem_filter.mp hI).2,JK (S:=upTo b S) (n:=99) fun I hI=>(ok.all I (List.mem_filter.mp hI).1).num.2]
theorem AQ{S:List Issue}{i:Int}{h:Issue->Res (State×Answer)}{c:Nat}{j:Int}(hh:∀I,BF S i=some I->fin S (h I)=pair (if c=10\/c=11 then(S,rU S c I.num I j)else if c=14 then(S,0::Vbptan.ints I.text)else if c=15 then(S.filter fun y=>y.num != I.num,[((S.length-1:Nat):Int)])else(S,[(I.day:Int),(I.lines.length:Int)]))):
  fin S (issueIn ⟨S⟩ i >>=h)=pair (HZ S c i j):=by
 unfold HZ issueIn;show fin S ((match BF S i with
  |some x=>.ok x
  |none=>.error (-5)) >>=h)=_
 cases e:BF S i with
 |none=>rfl
 |some I=>exact hh I e
theorem QE{S:List Issue}{I:Issue}{j:Int} :fin S (match if j<1 then none else I.lines[j.toNat-1]? with
  |none=>.error (-5)
  |some y=>match y with
   | .simple t=>(match lastFor (standing (placed S)) (I.num,j.toNat)with
    |none=>.ok ((⟨S⟩:State),0::Vbptan.ints (simpleText t))
    |some (q,.fix _ u)=>.ok (⟨S⟩,1::(q.1:Int)::(q.2:Int)::Vbptan.ints (simpleText u))
    |some (q,_)=>.ok (⟨S⟩,[2,(q.1:Int),(q.2:Int)]))
   |_=>.ok (⟨S⟩,if((standing (placed S)).any fun z=>z.1==(I.num,j.toNat))=true then [3]else [4]))=(⟨S⟩,rU S 10 I.num I j):=by
 unfold rU;cases (if j<1 then none else I.lines[j.toNat-1]?)with
 |none=>rfl
 |some y=>
  show fin S _=(⟨S⟩,AF S (I.num,j.toNat) y);cases y with
  |simple t=>
   show fin S _=(⟨S⟩,iz (placed S) (I.num,j.toNat) t);unfold iz;cases lastFor (standing (placed S)) (I.num,j.toNat)with
   |none=>rfl
   |some z=>
    obtain⟨q,l⟩:=z;cases l<;>rfl
  |fix p t=>rfl
  |void p=>rfl
theorem QF{S:List Issue}{I:Issue}{j:Int} :fin S (need (decide (1<=j/\j<=(I.lines.length:Int))) (-5) >>=fun _=>.ok ((⟨S⟩:State),AG S (I.num,j.toNat)))=(⟨S⟩,rU S 11 I.num I j):=by
 unfold rU;by_cases h:1<=j/\j<=(I.lines.length:Int)
 ·rw[aC h,ao (by omega),aM (by omega)];rfl
 ·rw[aK h];have e:(if j<1 then none else I.lines[j.toNat-1]?)=none:=by
   by_cases h1:j<1
   ·rw[aB h1]
   ·rw[ao h1,ql (by omega)]
  rw[e];rfl
theorem QU{S:List Issue}{c:Nat}{ns ls:List Int}(ok:rM S)(sh:uK c ns ls):Vbptan.step ⟨S⟩ (rowsOf c ns ls)=pair (rV S c ns ls):=by
 cases sh with
 |c0 _ h=>exact Ow h
 |c1 _ h=>exact Lg h
 |c2=>rfl
 |c3=>rfl
 |c4 f=>exact Ic (h:=fun f=>.ok ((⟨S⟩:State),fieldsTold (fileIn (register S 99) f))) (g:=DX S) fun a=>rfl
 |c5 f c=>
  refine Ie (h:=fun f c=>match (fileIn (register S 99) f).bind fun l=>(l.find? fun x=>x.1==c).map fun x=>x.2 with
   |none=>.error (-8)
   |some v=>.ok ((⟨S⟩:State),0::Vbptan.ints v)) (g:=uG S) fun a b=>?_
  unfold uG;show fin S (match (fileIn (register S 99) a).bind fun l=>iy l b with
   |none=>.error (-8)
   |some v=>.ok ((⟨S⟩:State),0::Vbptan.ints v))=_
  cases (fileIn (register S 99) a).bind fun l=>iy l b<;>rfl
 |c6=>rfl
 |c7 f=>exact Ic (h:=fun f=>.ok ((⟨S⟩:State),[if Vbptan.sure S f=true then 1 else 0])) (g:=Jw S) fun a=>rfl
 |c8 f n=>exact Ie (h:=fun f n=>.ok ((⟨S⟩:State),fieldsTold (fileIn (register S n) f))) (g:=DY S) fun a b=>rfl
 |c9 f n=>exact Ie (h:=fun f n=>.ok ((⟨S⟩:State),fieldsTold (fileIn (register (upTo n S) n) f))) (g:=F5 S) fun a b=>congrArg (fun l=>((⟨S⟩:State),l)) (QT ok a b)
 |Rt i j=>exact AQ (c:=10) (j:=j) fun I _=>QE
 |Ru i j=>exact AQ (c:=11) (j:=j) fun I _=>QF
 |c12 n d _ h=>exact Lh h
 |Rr f=>exact Ic (h:=fun f=>.ok ((⟨S⟩:State),0::((effective (placed S)).filter fun x=>fileOf x.2==f).flatMap fun x=>Vbptan.ints [x.1.1,x.1.2])) (g:=rQ S) fun a=>rfl
 |Rv i=>exact AQ (c:=14) (j:=0) fun I _=>rfl
 |Rw i=>exact AQ (c:=15) (j:=0) fun I _=>rfl
 |OM _ h=>
  show fin S (need (decide (ls.length<=ISSUES)&&ls.all fun i=>S.any fun x=>(x.num:Int)==i) (-4) >>=fun _=>.ok ((⟨S⟩:State),oX S ls))=((⟨S⟩:State),mZ S ls);unfold mZ need;show fin S ((if(decide (ls.length<=24)&&ls.all fun i=>S.any fun x=>(x.num:Int)==i)=true then Except.ok ()else Except.error (-4)) >>=fun _=>.ok ((⟨S⟩:State),oX S ls))=_;cases (decide (ls.length<=24)&&ls.all fun i=>S.any fun x=>(x.num:Int)==i)<;>rfl
 |ON c _ h=>
  have e:rV S 17 [c] ls=if(gP c (some (10,99))||false)=true then(S,[-3])else if ls.any dM=true then(S,[-1])else(S,pT S c.toNat (ls.map Int.toNat)):=rfl
  rw[e];show fin S (Vbptan.num c 10 99 >>=fun c=>bytesIn ls >>=fun b=>.ok ((⟨S⟩:State),pT S c b))=_;rw[we h,g9];by_cases h1:10<=c/\c<=99
  ·rw[xu h1,ao (fun z=>fc.mp z h1)];cases ls.any dM<;>rfl
  ·rw[sR h1,aB (fc.mpr h1)];rfl
 |Rx i=>exact AQ (c:=18) (j:=0) fun I _=>rfl
 |XY=>
  show((⟨S⟩:State),(match (standing (placed S)).getLast? with
   |none=>[0]
   |some x=>1::Vbptan.ints [x.1.1,x.1.2]))=((⟨S⟩:State),Cq S)
  rfl
theorem AR{α:Type}{n:Nat}{f:α->List Int} :∀(l:List α),(∀x∈l,(f x).length<=n)->(l.flatMap f).length<=n*l.length
 |[],_=>bu _
 |x::l,h=>by
  rw[cO,au,az];have h1:=h x aL;have h2:=AR l fun y hy=>h y (aG _ hy);rw[Nat.mul_add];omega
theorem iV(l:List Nat):(Vbptan.ints l).length=l.length:=ai ..
theorem AS{R:List (Nat×List (Nat×List Nat))}(ok:DU R)(n:Nat):(fieldsTold (fileIn R n)).length<=2000:=by
 cases e:fileIn R n with
 |none=>show 1<=2000;decide
 |some fs=>
  have HR:=ok.oh _ (gG e);have h1:=NV HR.val;have h2:=HR.len;show(_::_::fs.flatMap fl).length<=2000;rw[az,az];have h3:(fs.flatMap fl).length<=14*fs.length:=h1;have h4:fs.length<=90:=h2;omega
theorem QG{S:List Issue}(ok:rM S):(effective (placed S)).length<=1000:=aP (by rw[iI];exact Ba _ _) ok.len
theorem Li{S:List Issue}(ok:rM S){p:Pl}{y:Line}(hm:(p,y)∈placed S):(AF S p y).length<=3000:=by
 cases y with
 |simple t=>
  show(iz (placed S) p t).length<=3000;unfold iz;cases hl:lastFor (standing (placed S)) p with
  |none=>
   show(_::Vbptan.ints _).length<=_;rw[az,iV];have:=wk (sQ ok hm rfl);omega
  |some z=>
   obtain⟨q,l⟩:=z;cases l with
   |simple _=>show 3<=3000;decide
   |void _=>show 3<=3000;decide
   |fix _ u=>
    show(_::_::_::Vbptan.ints _).length<=_;rw[az,az,az,iV];have:=wk (sQ ok ((eS _).subset (nJ hl).1) (s:=u) rfl);omega
 |fix _ _=>
  show(if _ then [3]else [4]:List Int).length<=3000;split<;>decide
 |void _=>
  show(if _ then [3]else [4]:List Int).length<=3000;split<;>decide
theorem QH{S:List Issue}(ok:rM S){c:Nat}{ns ls:List Int}(sh:uK c ns ls)(hl:ls.length<=2000):(rV S c ns ls).2.length<=40000:=by
 unfold rV;split
 ·show 1<=40000;decide
 split
 ·show 1<=40000;decide
 rename_i ho XZ;have ho':vX ns (CK c)=false:=gz _ ▸ ho;have Z2:(yt c [0,1,12,17]&&ls.any dM)=false:=gz _ ▸ XZ;split
 ·rename_i h1;obtain⟨shl,_⟩:=JF sh ho' Z2 h1;generalize toN ns=ms at *;unfold Ga;cases shl with
  |c0 t ht=>
   show(yc S _).2.length<=40000;unfold yc;split
   ·show 1<=40000;decide
   ·split
    ·unfold tG;split
     ·show(if _ then _ else _:List Int).length<=_;split
      ·show 1<=40000;decide
      ·show 1<=40000;decide
     ·split
      ·show 1<=40000;decide
      ·split
       ·show 1<=40000;decide
       ·show 1<=40000;decide
    ·show 1<=40000;decide
  |c1 t ht=>
   show(rS _).length<=40000;unfold rS;split
   ·show 2<=40000;decide
   ·split<;>decide
  |c12 n d t hn hd ht=>
   show(rT n d _).length<=40000;unfold rT;rw[vY];split
   ·show 1<=40000;decide
   ·rename_i w e;rw[az,iV];have:=AL (b:=t) hn hd (AI e);omega
  |OM ls hl=>
   show(mZ S _).length<=40000;unfold mZ;split
   ·unfold oX;rw[az,iV];have:(oV (register S 99) (register (mX S ls) 99)).length<=999:=by
     unfold oV;exact aP (b9 _ _) (by rw[ai,fU];exact aq _)
    omega
   ·decide
  |ON c t ht=>
   show(pT S _ _).length<=40000;unfold pT;rw[az,iV,ai];have:=yH (ko ok 99);exact aP (o8 (aP (b9 _ _) this)) (by decide)
 split
 ·rename_i h1 h2;have shi:=Ot sh h2;generalize ns.getD 0 0=i at *;generalize ns.getD 1 0=j at *;unfold HZ;cases hi:BF S i with
  |none=>show 1<=40000;decide
  |some I=>
   have XX:I∈S:=by
    unfold BF at hi;split at hi
    ·cases hi
    ·exact(rR hi).1
   show(if c=10\/c=11 then(S,rU S c I.num I j)else if c=14 then(S,0::Vbptan.ints I.text)else if c=15 then(S.filter fun y=>y.num != I.num,[((S.length-1:Nat):Int)])else(S,[(I.day:Int),(I.lines.length:Int)])).2.length<=40000;split
   ·show(rU S c I.num I j).length<=40000;unfold rU;cases hy:(if j<1 then none else I.lines[j.toNat-1]?)with
    |none=>show 1<=40000;decide
    |some y=>
     show(if c=10 then AF S (I.num,j.toNat) y else AG S (I.num,j.toNat)).length<=40000;split
     ·have hm:((I.num,j.toNat),y)∈placed S:=by
       split at hy
       ·cases hy
       ·refine List.mem_flatMap.mpr ⟨I,XX,?_⟩;have:=DO hy;rw[show j.toNat-1+1=j.toNat by omega]at this;exact bW this
      exact aP (Li ok hm) (by decide)
     ·unfold AG;rw[az];have h1:=AR (n:=3) (f:=fun y:Pl×Line=>[(y.1.1:Int),(y.1.2:Int),if((standing (placed S)).any fun z=>z.1==y.1)=true then 1 else 0]) ((placed S).filter fun y=>aimOf y.2==some (I.num,j.toNat)) fun x _=>aq 3;have h2:=b9 (fun y:Pl×Line=>aimOf y.2==some (I.num,j.toNat)) (placed S);have h3:=ok.len;exact aP (o8 (aP h1 (Nat.mul_le_mul_left 3 (aP h2 h3)))) (by decide)
   ·split
    ·show(_::Vbptan.ints I.text).length<=_;rw[az,iV];have:=(ok.all I XX).text;omega
    ·split
     ·show 1<=40000;decide
     ·show 2<=40000;decide
 split
 ·rename_i h1 h2 h3;obtain⟨ZZ,_⟩:=JG sh ho' h3;generalize toN ns=ms at *;show(Oq S c ms).length<=40000;cases ZZ with
  |c4 f=>exact aP (AS (ko ok 99) f) (by decide)
  |c5 f d=>
   show(uG S f d).length<=40000;unfold uG;split
   ·decide
   ·rename_i v hv;rw[az,iV];obtain⟨fs,h1,h2⟩:=Option.bind_eq_some_iff.mp hv;have HR:=(ko ok 99).oh _ (gG h1);unfold iy at h2;obtain⟨x,hx,ex⟩:=Option.map_eq_some_iff.mp h2;have:=HR.val x (fB hx);rw[<- ex];omega
  |c7 f=>show 1<=40000;decide
  |c8 f n=>exact aP (AS (ko ok n) f) (by decide)
  |c9 f n=>exact aP (AS (ko (Jv ok n) 99) f) (by decide)
  |Rr f=>
   show(rQ S f).length<=40000;unfold rQ;rw[az];have h1:=AR (n:=2) (f:=fun x:Pl×Simple=>Vbptan.ints [x.1.1,x.1.2]) ((effective (placed S)).filter fun x=>fileOf x.2==f) fun x _=>aq 2;have h2:=b9 (fun x:Pl×Simple=>fileOf x.2==f) (effective (placed S));exact aP (o8 (aP h1 (Nat.mul_le_mul_left 2 (aP h2 (QG ok))))) (by decide)
 ·rename_i h1 h2 h3;show(allR S c).length<=40000;have few:=ok.few;rcases Ou sh h1 h2 h3 with rfl|rfl|rfl|rfl
  ·show(_::Vbptan.ints (S.map fun x=>x.num)).length<=_;rw[az,iV,ai];omega
  ·show(_::Vbptan.ints (gaps S)).length<=_;rw[az,iV];have:=uD S (Vbptan.last S);have:=DT ok;show(rN S (Vbptan.last S)).length+1<=40000;omega
  ·show(AA S).length<=_;unfold AA;rw[az,iV,ai];have:=yH (ko ok 99);exact aP (o8 this) (by decide)
  ·show(Cq S).length<=_;unfold Cq;split
   ·show 1<=40000;decide
   ·show 3<=40000;decide
end Gz
namespace Gz
open PyVbptan (shape whole)
open VbptanNeutral (asked1)
theorem xw(p:Int)(r:List Int):PyFlat.call shape (p::r)=match shape p with
  |none=>none
  |some (n,k)=>if r.length<n then none else match PyFlat.rows k (r.drop n)with
   |none=>none
   |some (xs,t)=>some ((p::r.take n)::xs,t):=rfl
theorem m9{p:Int}{r:List Int}{n:Nat}{c:List (List Int)}{t:List Int}(hs:shape p=some (n,0))(h:PyFlat.call shape (p::r)=some (c,t)):n<=r.length/\c=[p::r.take n]/\r=r.take n++t:=by
 rw[xw,hs]at h;have h:(if r.length<n then none else match PyFlat.rows 0 (r.drop n)with
  |none=>none
  |some (xs,t)=>some ((p::r.take n)::xs,t))=some (c,t):=h
 by_cases hl:r.length<n
 ·rw[aB hl]at h;cases h
 ·rw[ao hl]at h;have h:some ([p::r.take n],r.drop n)=some (c,t):=h;injection h with h
  injection h with h1 h2;exact⟨by omega,h1.symm,by rw[<- h2,gO]⟩
theorem Gg{p:Int}{r:List Int}{n:Nat}{c:List (List Int)}{t:List Int}(hs:shape p=some (n,1))(h:PyFlat.call shape (p::r)=some (c,t)):n<=r.length/\∃ls:List Int,c=[p::r.take n,ls]/\r=r.take n++((ls.length:Int)::(ls++t)):=by
 rw[xw,hs]at h;have h:(if r.length<n then none else match PyFlat.rows 1 (r.drop n)with
  |none=>none
  |some (xs,t)=>some ((p::r.take n)::xs,t))=some (c,t):=h
 by_cases hl:r.length<n
 ·rw[aB hl]at h;cases h
 ·rw[ao hl]at h;refine⟨by omega,?_⟩;cases hd:r.drop n with
  |nil=>rw[hd]at h;cases h
  |cons m q=>
   rw[hd]at h;have h:(match (match (if 0<=m/\m.toNat<=q.length then some (q.take m.toNat,q.drop m.toNat)else none)with
    |none=>none
    |some (x,s)=>match PyFlat.rows 0 s with
     |none=>none
     |some (xs,t)=>some (x::xs,t))with
    |none=>none
    |some (xs,t)=>some ((p::r.take n)::xs,t))=some (c,t):=h
   by_cases hm:0<=m/\m.toNat<=q.length
   ·rw[aB hm]at h;have h:some ([p::r.take n,q.take m.toNat],q.drop m.toNat)=some (c,t):=h;injection h with h
    injection h with h1 h2;refine⟨q.take m.toNat,h1.symm,?_⟩;have el:((q.take m.toNat).length:Int)=m:=by rw[b4];omega
    rw[el, <- h2,gO, <- hd,gO]
   ·rw[ao hm]at h;cases h
theorem AU{l:List Int}(h:VbptanNeutral.row l=true):l.length<=2000:=by
 unfold VbptanNeutral.row at h;rw[bB,aZ]at h;exact h.1
structure Xs (p:Int) (r:List Int) (c:List (List Int)) (t:List Int) (cn:Nat) (ns ls:List Int):Prop where
 place:p=(cn:Int)
 sh:uK cn ns ls
 few:ls.length<=2000
 rows:whole c=rowsOf cn ns ls
 flat:if yt cn [0,1,12,16,17]=true then r=ns++((ls.length:Int)::(ls++t))else r=ns++t
theorem take1{r:List Int}(h:1<=r.length):∃x,r.take 1=[x]:=by
 cases r with
 |nil=>cases h
 |cons x r=>exact⟨x,rfl⟩
theorem take2{r:List Int}(h:2<=r.length):∃x y,r.take 2=[x,y]:=by
 cases r with
 |nil=>cases h
 |cons x r=>
  cases r with
  |nil=>exact absurd (show 2<=1 from h) (by decide)
  |cons y r=>exact⟨x,y,rfl⟩
theorem Ig{p:Int}{r:List Int}{c:List (List Int)}{t:List Int}(h:PyFlat.call shape (p::r)=some (c,t))(ha:asked1 (whole c)=true):∃cn ns ls,Xs p r c t cn ns ls:=by
 have Xh:shape p=none->False:=fun hs=>by
  rw[xw,hs]at h;cases h
 by_cases h0:p=0
 ·subst h0;obtain⟨_,ls,e1,e2⟩:=Gg (n:=0) rfl h;rw[e1]at ha;have hl:=AU (l:=ls) ha;exact⟨0,[],ls,rfl,.c0 ls hl,hl,by rw[e1];rfl,e2⟩
 by_cases h1:p=1
 ·subst h1;obtain⟨_,ls,e1,e2⟩:=Gg (n:=0) rfl h;rw[e1]at ha;have hl:=AU (l:=ls) ha;exact⟨1,[],ls,rfl,.c1 ls hl,hl,by rw[e1];rfl,e2⟩
 by_cases h2:p=2
 ·subst h2;obtain⟨_,e1,e2⟩:=m9 (n:=0) rfl h;exact⟨2,[],[],rfl,.c2,by decide,by rw[e1];rfl,e2⟩
 by_cases h3:p=3
 ·subst h3;obtain⟨_,e1,e2⟩:=m9 (n:=0) rfl h;exact⟨3,[],[],rfl,.c3,by decide,by rw[e1];rfl,e2⟩
 by_cases h4:p=4
 ·subst h4;obtain⟨hn,e1,e2⟩:=m9 (n:=1) rfl h;obtain⟨x,ex⟩:=take1 hn;rw[ex]at e1 e2;exact⟨4,[x],[],rfl,.c4 x,by decide,by rw[e1];rfl,e2⟩
 by_cases h5:p=5
 ·subst h5;obtain⟨hn,e1,e2⟩:=m9 (n:=2) rfl h;obtain⟨x,y,ex⟩:=take2 hn;rw[ex]at e1 e2;exact⟨5,[x,y],[],rfl,.c5 x y,by decide,by rw[e1];rfl,e2⟩
 by_cases h6:p=6
 ·subst h6;obtain⟨_,e1,e2⟩:=m9 (n:=0) rfl h;exact⟨6,[],[],rfl,.c6,by decide,by rw[e1];rfl,e2⟩
 by_cases h7:p=7
 ·subst h7;obtain⟨hn,e1,e2⟩:=m9 (n:=1) rfl h;obtain⟨x,ex⟩:=take1 hn;rw[ex]at e1 e2;exact⟨7,[x],[],rfl,.c7 x,by decide,by rw[e1];rfl,e2⟩
 by_cases h8:p=8
 ·subst h8;obtain⟨hn,e1,e2⟩:=m9 (n:=2) rfl h;obtain⟨x,y,ex⟩:=take2 hn;rw[ex]at e1 e2;exact⟨8,[x,y],[],rfl,.c8 x y,by decide,by rw[e1];rfl,e2⟩
 by_cases h9:p=9
 ·subst h9;obtain⟨hn,e1,e2⟩:=m9 (n:=2) rfl h;obtain⟨x,y,ex⟩:=take2 hn;rw[ex]at e1 e2;exact⟨9,[x,y],[],rfl,.c9 x y,by decide,by rw[e1];rfl,e2⟩
 by_cases X3:p=10
 ·subst X3;obtain⟨hn,e1,e2⟩:=m9 (n:=2) rfl h;obtain⟨x,y,ex⟩:=take2 hn;rw[ex]at e1 e2;exact⟨10,[x,y],[],rfl,.Rt x y,by decide,by rw[e1];rfl,e2⟩
 by_cases h11:p=11
 ·subst h11;obtain⟨hn,e1,e2⟩:=m9 (n:=2) rfl h;obtain⟨x,y,ex⟩:=take2 hn;rw[ex]at e1 e2;exact⟨11,[x,y],[],rfl,.Ru x y,by decide,by rw[e1];rfl,e2⟩
 by_cases h12:p=12
 ·subst h12;obtain⟨hn,ls,e1,e2⟩:=Gg (n:=2) rfl h;obtain⟨x,y,ex⟩:=take2 hn;rw[ex]at e1 e2;rw[e1]at ha;have ha:(VbptanNeutral.whole x&&VbptanNeutral.whole y&&VbptanNeutral.row ls)=true:=ha;rw[bB]at ha;have hl:=AU ha.2;exact⟨12,[x,y],ls,rfl,.c12 x y ls hl,hl,by rw[e1];rfl,e2⟩
 by_cases SK:p=13
 ·subst SK;obtain⟨hn,e1,e2⟩:=m9 (n:=1) rfl h;obtain⟨x,ex⟩:=take1 hn;rw[ex]at e1 e2;exact⟨13,[x],[],rfl,.Rr x,by decide,by rw[e1];rfl,e2⟩
 by_cases X4:p=14
 ·subst X4;obtain⟨hn,e1,e2⟩:=m9 (n:=1) rfl h;obtain⟨x,ex⟩:=take1 hn;rw[ex]at e1 e2;exact⟨14,[x],[],rfl,.Rv x,by decide,by rw[e1];rfl,e2⟩
 by_cases UQ:p=15
 ·subst UQ;obtain⟨hn,e1,e2⟩:=m9 (n:=1) rfl h;obtain⟨x,ex⟩:=take1 hn;rw[ex]at e1 e2;exact⟨15,[x],[],rfl,.Rw x,by decide,by rw[e1];rfl,e2⟩
 by_cases X5:p=16
 ·subst X5;obtain⟨_,ls,e1,e2⟩:=Gg (n:=0) rfl h;rw[e1]at ha;have hl:=AU (l:=ls) ha;exact⟨16,[],ls,rfl,.OM ls hl,hl,by rw[e1];rfl,e2⟩
 by_cases X6:p=17
 ·subst X6;obtain⟨hn,ls,e1,e2⟩:=Gg (n:=1) rfl h;obtain⟨x,ex⟩:=take1 hn;rw[ex]at e1 e2;rw[e1]at ha;have ha:(VbptanNeutral.whole x&&VbptanNeutral.row ls)=true:=ha;rw[bB]at ha;have hl:=AU ha.2;exact⟨17,[x],ls,rfl,.ON x ls hl,hl,by rw[e1];rfl,e2⟩
 by_cases X7:p=18
 ·subst X7;obtain⟨hn,e1,e2⟩:=m9 (n:=1) rfl h;obtain⟨x,ex⟩:=take1 hn;rw[ex]at e1 e2;exact⟨18,[x],[],rfl,.Rx x,by decide,by rw[e1];rfl,e2⟩
 by_cases X8:p=19
 ·subst X8;obtain⟨_,e1,e2⟩:=m9 (n:=0) rfl h;exact⟨19,[],[],rfl,.XY,by decide,by rw[e1];rfl,e2⟩
 refine(Xh ?_).elim;unfold PyVbptan.shape;rw[ao h0,ao h1,ao h2,ao h3,ao h4,ao h5,ao h6,ao h7,ao h8,ao h9,ao X3,ao h11,ao h12,ao SK,ao X4,ao UQ,ao X5,ao X6,ao X7,ao X8]
open PySem PySem.Spec PyProof.Rows L2
open Vbptan (Issue)
def Kf(H H':Hp):Prop:=∀b o,H b=some o->(∀p u,o≠.jy p u)->H' b=some o
section
variable{A:Ad}{H H':Hp}{a d tx:Addr}
theorem iB.kf{fs:List (Nat×List Nat)}(h:iB H d fs)(s:Kf H H'):iB H' d fs:=by
 obtain⟨kvs,e,p⟩:=h;refine⟨kvs,s _ _ e (fun _ _ z=>HO.noConfusion z),bX (fun x y q=>?_) p⟩;obtain⟨z,b,z1,z2⟩:=q;exact⟨z,b,z1,s _ _ z2 (fun _ _ z=>HO.noConfusion z)⟩
theorem gK.kf{x:Vbptan.Simple}(h:gK A H a x)(s:Kf H H'):gK A H' a x:=by
 obtain⟨dx,d,e,f⟩:=h;exact⟨dx,d,s _ _ e (fun _ _ z=>HO.noConfusion z),f.kf s⟩
theorem DG.kf{v:V}{o:Option Vbptan.Simple}(h:DG A H v o)(s:Kf H H'):DG A H' v o:=by
 cases o with
 |none=>exact h
 |some p=>
  obtain⟨q,e,f⟩:=h;exact⟨q,e,f.kf s⟩
theorem t9.kf{v:V}{o:Option (Nat×Nat)}(h:t9 H v o)(s:Kf H H'):t9 H' v o:=by
 cases o with
 |none=>exact h
 |some p=>
  obtain⟨q,e,f⟩:=h;exact⟨q,e,s _ _ f (fun _ _ z=>HO.noConfusion z)⟩
theorem ki.kf{x:Vbptan.Line}(h:ki A H a x)(s:Kf H H'):ki A H' a x:=by
 obtain⟨dx,va,vs,e,f,g⟩:=h;exact⟨dx,va,vs,s _ _ e (fun _ _ z=>HO.noConfusion z),f.kf s,g.kf s⟩
theorem lV.kf{x:List Vbptan.Line}(h:lV A H d x)(s:Kf H H'):lV A H' d x:=by
 obtain⟨as,e,f⟩:=h;exact⟨as,s _ _ e (fun _ _ z=>HO.noConfusion z),bX (fun _ _ q=>q.kf s) f⟩
theorem iH.kf{x:Issue}(h:iH A H a x)(s:Kf H H'):iH A H' a x:=by
 obtain⟨tx,⟨dx,ls,e,f⟩,g⟩:=h;exact⟨tx,⟨dx,ls,s _ _ e (fun _ _ z=>HO.noConfusion z),f.kf s⟩,s _ _ g (fun _ _ z=>HO.noConfusion z)⟩
theorem dW.kf{k:Addr}{S:List Issue}(h:dW A H k S)(s:Kf H H'):dW A H' k S:=by
 obtain⟨ok,kvs,KK⟩:=h;refine⟨ok,kvs,s _ _ KK.at_ (fun _ _ z=>HO.noConfusion z),KK.keys,fun n=>?_⟩;have q:=KK.val n;cases hq:Vbptan.issueAt S n with
 |none=>rw[hq]at q;exact q
 |some I=>
  rw[hq]at q;obtain⟨a,e,h⟩:=q;refine⟨a,e,h.kf fun b o eb n=>?_⟩;by_cases z:b=k
  ·rw[z,kJ]at eb;cases eb
  ·rw[ja z]at eb ⊢;exact s b o eb n
theorem Ux{t:Addr}{p:Obj}{u o:HO}(h:H t=some (.jy p u)):Kf H (upd H t o):=fun b x e n=>by
 rw[aI (fun z=>by rw[z,h]at e;exact n _ _ (aQ e).symm)];exact e
end
theorem Gh{L:List Int}{s e:Nat}(h1:s<=e)(h2:e<=L.length):pA (L.map V.int) (some (s:Int)) (some (e:Int))=((L.drop s).take (e-s)).map V.int:=by
 unfold pA;rw[HT.r8,HT.r8,ai,lZ h2,lZ (aP h1 h2),List.map_take,OF]
abbrev CA(S:List Issue)(cs:List (List (List Int))):List Int:=PyFlat.told (PyFlat.played VbptanNeutral.step (⟨S⟩:Vbptan.State) (cs.map whole))
theorem Lj(S:List Issue)(c:List (List Int))(cs:List (List (List Int))):CA S (c::cs)=(((Vbptan.step ⟨S⟩ (whole c)).2.length:Int)::(Vbptan.step ⟨S⟩ (whole c)).2)++CA (Vbptan.step ⟨S⟩ (whole c)).1.issues cs:=rfl
section
variable{P:Program}{w:World}{K:PySem.W.Frag}{mg:Str->Option Value}{base:Heap}{A:Ad}{CX:nZ}
def xx(K:PySem.W.Frag):Sp:=fun vs H Q _=>∃x L,vs=[.ref x]/\cI K H x (List.map V.int L)/\L.length<=16000/\PyVbptan.answers_asked L=true/\oW (PyVbptan.answers L) H Q
theorem Ih(T:gQ K mg A){f:Addr}{fd:FuncData}(F:A9 K "answers" "answers" l7 f fd):jz P w K mg base ig 13 f fd ["calls"] (xx K):=by
 refine F.ok fK (fun vs H Q E h=>?_) (fun cdv A' outer s H vs Q E hr h=>?_)
 ·obtain⟨x,L,rfl,_⟩:=h;rfl
 ·refine aR fun Pz pz=>?_;obtain⟨x,L,rfl,hS,hL,BG,c⟩:=h;refine pz ?_;refine⟨_,ay (bH (i:=1) fK.nd rfl (Or.inl rfl) qK) (ay (bH (i:=2) fK.nd rfl (Or.inl rfl) (b6 aA)) (ay (bH (i:=3) fK.nd rfl (Or.inl rfl) aY)
   (ay (yT cH (bz yV (pv 3) (fX T.bn (pv 0)) (bM _))
    (ay (bH (i:=4) fK.nd rfl (Or.inl rfl) (fJ gR (pv 0) (pv 3) (fun _ _=>rfl)))
    (ay (bH (i:=5) fK.nd rfl (Or.inl rfl) (eB k6 (eB k6 (pv 3) aY) (fX T.bn (JE T.Fq (pv 4) (fun _ _=>rfl)))))
    (ay (bH (i:=6) fK.nd rfl (Or.inl rfl) (qB uU (pv 0) (nA (eB k6 (pv 3) aY)) (nA (pv 5))))
    (ay (bH (i:=7) fK.nd rfl (Or.inl rfl) (b6 aA))
    (ay (bH (i:=3) fK.nd rfl (Or.inl rfl) (pv 5))
    (ay (b7 (bz l0 (pv 4) (Cb T.M9) rfl)
     (ay (bH (i:=7) fK.nd rfl (Or.inl rfl) (qB uU (pv 0) (nA (eB k6 (pv 3) aY)) (nA (eB k6 (eB k6 (pv 3) aY) (fJ gR (pv 0) (pv 3) (fun _ _=>rfl))))))
     (aD (RP (i:=3) fK.nd rfl (Or.inl rfl) (eB k6 aY (fX T.bn (pv 7))) RQ))) bC)
    (ay (bH (i:=8) fK.nd rfl (Or.inl rfl) (Pb (bI (Le T) hr bx (ah (pv 1) (ah (pv 4) (ah (pv 6) (ah (pv 7) aA)))))))
    (ay (qU (pv 2) (fX T.bn (pv 8)))
    (aD (xq (pv 2) (pv 8))))))))))))
   (aD (aW (pv 2)))))),?_⟩
  obtain⟨cs,hcs,Z3,hall⟩:∃cs,PyFlat.calls shape L.length L=some cs/\cs.length<=400/\∀c∈cs,asked1 (whole c)=true:=by
   unfold PyVbptan.answers_asked PyVbptan.calls at BG;cases e:PyFlat.calls shape L.length L with
   |none=>rw[e]at BG;cases BG
   |some cs=>
    rw[e]at BG;have BG:(PyFlat.atMost 400 (cs.map whole)&&VbptanNeutral.asked (cs.map whole))=true:=BG;rw[bB]at BG;obtain⟨h1,h2⟩:=BG;unfold PyFlat.atMost at h1;rw[aZ,ai]at h1;unfold VbptanNeutral.asked at h2;rw[bB,bB,bB]at h2;refine⟨cs,rfl,h1,fun c hc=>?_⟩;exact List.all_eq_true.mp h2.2.2.2 _ (bV hc)
  have Z4:PyVbptan.answers L=CA [] cs:=by
   unfold PyVbptan.answers PyVbptan.calls;rw[hcs];rfl
  rw[Z4]at c;intro k hk;have s1:=aO (o:=.dK []) hk;refine⟨bu _,fun t ht=>?_⟩;have s2:=aO (o:=.lst []) ht;have hkt:upd (upd H k (.dK [])) t (.lst []) k=some (.dK []):=s2 _ _ aj;have tH:H t=none:=s1.free ht;have nkt:k≠t:=fun z=>by rw[<- z,aj]at ht;cases ht
  have K0:∃o u,dW A (upd (upd (upd H k (.dK [])) t (.lst [])) t (.jy o u)) k []:=
   ⟨{cls:=.none,data:=.fields #[]},.lst [],⟨List.Pairwise.nil,(fun _ z=>by cases z),bu _⟩,[],by rw[aI nkt];exact hkt,⟨List.Pairwise.nil,(fun _ z=>by cases z)⟩,fun n=>rfl⟩
  refine⟨fun m σ H'=>∃(at_ f:Nat) (S:List Issue) (cs':List (List (List Int))) (out:List Int) (v4 v5 v6 v7 v8:Option V),σ=[some (.ref x),some (.ref k),some (.ref t),some (.int (at_:Nat)),v4,v5,v6,v7,v8]/\m=cs'.length/\at_<=L.length/\PyFlat.calls shape f (L.drop at_)=some cs'/\
    cs'.length<=400/\(∀c∈cs',asked1 (whole c)=true)/\bF H H'/\(∃o u,dW A (upd H' t (.jy o u)) k S)/\H' t=some (.lst (out.map V.int))/\out.length<=40001*(400-cs'.length)/\out++CA S cs'=CA [] cs,
   ⟨_,0,L.length,[],cs,[],none,none,none,none,none,rfl,rfl,bu _,hcs,Z3,hall,s1.trans s2,K0,aj,bu _,rfl⟩,?_⟩
  intro m σ H1 hz;refine aR fun Pz pz=>?_;obtain⟨at_,f,S,cs',out,v4,v5,v6,v7,v8,rfl,rfl,hat,tK,Xi,Ry,sm,⟨o0,u0,hK⟩,ht1,hout,heq⟩:=hz;refine pz ?_;have X9:=sm.seq hS;refine⟨_,rfl,_,rfl,x,_,rfl,.inl X9,_,_,rfl,rfl,_,rfl,?_⟩;rw[ai];by_cases hlt:at_<L.length
  ·rw[aC (by omega)];refine cW ?_;have hd:=dX hlt;have hp0:L[at_]? =some L[at_]:=aM hlt;generalize hr0:L.drop (at_+1)=r at hd;generalize L[at_]=p at hd hp0;rw[hd]at tK;obtain⟨g,rfl⟩:∃g,f=g+1:=by
    cases f with
    |zero=>cases tK
    |succ g=>exact⟨g,rfl⟩
   obtain⟨cc,tl,Lz,hcall,Z5,rfl⟩:∃cc tl Lz,PyFlat.call shape (p::r)=some (cc,tl)/\PyFlat.calls shape g tl=some Lz/\cs'=cc::Lz:=by
    have tK:(match PyFlat.call shape (p::r)with
     |none=>none
     |some (c,t)=>match PyFlat.calls shape g t with
      |none=>none
      |some cs=>some (c::cs))=some cs':=tK
    cases e1:PyFlat.call shape (p::r)with
    |none=>rw[e1]at tK;cases tK
    |some y=>
     obtain⟨cc,tl⟩:=y;rw[e1]at tK;have tK:(match PyFlat.calls shape g tl with
      |none=>none
      |some cs=>some (cc::cs))=some cs':=tK
     cases e2:PyFlat.calls shape g tl with
     |none=>rw[e2]at tK;cases tK
     |some Lz=>rw[e2]at tK;exact⟨cc,tl,Lz,rfl,e2,(aQ tK).symm⟩
   obtain⟨cn,ns,ls,sp⟩:=Ig hcall (Ry cc aL);obtain⟨Z6,hnl⟩:=sp.sh.lt;have ep:=sp.place;subst ep;have ok:=hK.1;refine⟨fun σ' H'=>∃m',m'<(cc::Lz).length/\_,fun σ' H' z=>z,?_⟩;refine MM fun ks hks=>sq fun N0 n0=>?_;have hx0:(L.map V.int)[at_]? =some (.int (cn:Int)):=by rw[bf,hp0];rfl
   refine⟨_,rfl,_,rfl,x,_,_,_,rfl,rfl,X9,cB hx0,n0 _ _ (sq fun N1 n1=>?_)⟩;refine⟨_,rfl,_,_,rfl,rfl,cn,rfl,Z6,fun b hb=>?_⟩;obtain⟨bvs,hb1,hb2⟩:=hb;have SN:bvs.length=ns.length:=by rw[bg hb2,hnl]
   refine⟨b,_,rfl,.inr (hb1 _),_,_,rfl,rfl,n1 _ _ (sq fun N2 n2=>?_)⟩;rw[SN];have adB:r.length=L.length-(at_+1):=by rw[<- hr0,iW]
   have nsr:ns.length<=r.length/\r.take ns.length=ns:=by
    have fl:=sp.flat;split at fl
    ·rw[fl,au];exact⟨kI _ _,List.take_left⟩
    ·rw[fl,au];exact⟨kI _ _,List.take_left⟩
   have e5:(at_:Int)+1+(ns.length:Int)=((at_+1+ns.length:Nat):Int):=by omega
   have e1:(at_:Int)+1=((at_+1:Nat):Int):=by omega
   refine⟨_,rfl,_,rfl,_,_,rfl,rfl,_,rfl,_,rfl,_,rfl,x,_,rfl,X9,fun na hna=>n2 _ _ ?_⟩;show CO _ _ _ [some (.ref x),some (.ref k),some (.ref t),some (.int (at_:Nat)),some (.int (cn:Int)),some (.int ((at_:Int)+1+(ns.length:Int))),some (.ref na),v7,v8] (upd H1 na (.lst (pA (L.map V.int) (some ((at_:Int)+1)) (some ((at_:Int)+1+(ns.length:Int))))));have TV:pA (L.map V.int) (some ((at_:Int)+1)) (some ((at_:Int)+1+(ns.length:Int)))=ns.map V.int:=by
    rw[e5,e1,Gh (by omega) (by omega),hr0,show at_+1+ns.length-(at_+1)=ns.length by omega,nsr.2]
   rw[TV,e5];have s3:=aO (o:=.lst (ns.map V.int)) hna;refine sq fun N3 n3=>⟨bu _,fun la hla=>n3 _ _ (sq fun N4 n4=>?_)⟩
   have s4:=aO (o:=.lst []) hla;have Z7:upd (upd H1 na (.lst (ns.map V.int))) la (.lst []) na=some (.lst (ns.map V.int)):=s4 _ _ aj;have Z8:=s3.trans s4;have nla:la≠t:=fun z=>by rw[z,s3 _ _ ht1]at hla;cases hla
   have last:∀(lb:Addr) (at2:Nat) (H2:Hp),bF (upd (upd H1 na (.lst (ns.map V.int))) la (.lst [])) H2->lb≠t->H2 lb=some (.lst (ls.map V.int))->at2<=L.length->L.drop at2=tl->
     CO (RO (Ml (lF (Gb A) [] E0 (cE (cT 1) (cE (cT 4) (cE (cT 6) (cE (cT 7) fW)))))) (uS 8)) (CO (yS (Sa K "list" uY (cT 2) (cE (Vo (fun xs H Q=>∃p ys,xs=[.ref p]/\(cI K H p ys\/lD K H p ys)/\Q (.int ys.length) H) (cE (cT 8) fW)) fW))) (yS (Sa K "list" yy (cT 2) (cE (cT 8) fW))))
      ks
      [some (.ref x),some (.ref k),some (.ref t),some (.int (at2:Nat)),some (.int (cn:Int)),some (.int ((at_+1+ns.length:Nat):Int)),some (.ref na),some (.ref lb),v8] H2:=fun lb at2 H2 s5 Z9 hlb aaa hdr=>by
    have sA:=Z8.trans s5;have OI:=sA _ _ ht1;have al:=QH ok sp.sh sp.few;have est:=QU ok sp.sh;have nna:na≠t:=fun z=>by rw[z,ht1]at hna;cases hna
    refine sq fun N6 n6=>⟨t,_,OI,trivial,fun od=>?_⟩
    have Lb:dW A (upd H2 t (.jy od (.lst (out.map V.int)))) k S:=hK.kf fun b' o' e' n'=>by
     have nb:b'≠t:=fun z=>by rw[z,aj]at e';exact n' _ _ (aQ e').symm
     rw[aI nb]at e' ⊢;exact sA _ _ e'
    refine⟨_,rfl,_,rfl,_,rfl,_,rfl,k,S,na,lb,cn,ns,ls,rfl,Lb,by rw[aI nna];exact s5 _ _ Z7,by rw[aI Z9];exact hlb,sp.sh,sp.few,fun H3 l sb hl hl3 hK3=>?_⟩;generalize rV S cn ns ls=ar at *;obtain⟨_,kvs,KK⟩:=id Lb;have ntk:t≠k:=fun z=>by
     have q:=KK.at_;rw[<- z,aj]at q;cases q
    have ht3:H3 t=some (.jy od (.lst (out.map V.int))):=sb _ _ aj ntk;have nlt:l≠t:=fun z=>by rw[z,aj]at hl;cases hl
    have ol:out.length<=40001*(400-(Lz.length+1)):=hout;have c4:Lz.length+1<=400:=Xi;refine⟨ht3,n6 _ _ (sq fun N7 n7=>?_)⟩;have hl4:upd H3 t (.lst (out.map V.int)) l=some (.lst (ar.2.map V.int)):=by rw[aI nlt];exact hl3
    refine⟨_,rfl,.inl ⟨rfl,_,cI.of aj⟩,_,rfl,l,_,rfl,.inl (cI.of hl4),t,_,_,rfl,rfl,aj,?_,?_⟩
    ·rw[ai];show out.length<2 ^ 24;omega
    refine n7 _ _ ?_;rw[iX];refine⟨_,rfl,.inl ⟨rfl,_,cI.of aj⟩,_,rfl,t,l,_,_,rfl,rfl,aj,by rw[aI nlt];exact hl3,?_,?_⟩
    ·rw[au,ai,ai];show out.length+1+_<=2 ^ 24;omega
    ·rw[iX];rw[hks];refine⟨Lz.length,fC _,at2,g,ar.1,Lz,out++((ar.2.length:Int)::ar.2),_,_,_,_,_,rfl,rfl,aaa,by rw[hdr];exact Z5,by omega,fun c hc=>Ry c (aG _ hc),fun b' o e=>?_,?_,?_,?_,?_⟩
     ·have nbt:b'≠t:=fun z=>by rw[z,tH]at e;cases e
      rw[aI nbt];exact sb _ _ (by rw[aI nbt];exact sA _ _ (sm _ _ e)) (fun z=>by rw[z,hk]at e;cases e)
     ·refine⟨od,.lst [],?_⟩;rw[iX];exact hK3.kf (Ux ht3)
     ·rw[aj,aX,ai];show some (HO.lst ((_++[_])++_))=some (HO.lst (_++(_::_)));rw[bw];rfl
     ·rw[au,az];have:40001*(400-Lz.length)=40001*(400-(Lz.length+1))+40001:=by omega
      omega
     ·rw[Lj,sp.rows,est]at heq;rw[<- heq,bw]
   refine⟨_,rfl,n4 _ _ (sq fun N5 n5=>?_)⟩;refine⟨_,rfl,fun tA hT=>⟨tA,_,rfl,.inr (hT _),rfl,jk _,_,rfl,?_⟩⟩;show if Lu (.int (cn:Int)) (List.map V.int [0,1,12,16,17])=true then _ else _
   rw[nL];have fl:=sp.flat;refine gm (fun h1=>?_) (fun h1=>?_)
   ·have h1:yt cn [0,1,12,16,17]=true:=h1;rw[aB h1]at fl;have hd2:L.drop (at_+1+ns.length)=(ls.length:Int)::(ls++tl):=by rw[<- Gs,hr0,fl,List.drop_left]
    have ll:(L.drop (at_+1+ns.length)).length=1+ls.length+tl.length:=by rw[hd2,az,au];omega
    rw[iW]at ll;have ha1:L[at_+1+ns.length]? =some (ls.length:Int):=by
     have:=List.getElem?_drop (xs:=L) (i:=at_+1+ns.length) (j:=0);rw[hd2]at this;exact this.symm
    have SW:(L.map V.int)[at_+1+ns.length]? =some (.int (ls.length:Int)):=by rw[bf,ha1];rfl
    have SS:L.drop (at_+1+ns.length+1)=ls++tl:=by rw[<- Gs,hd2];rfl
    have hS4:=Z8.seq X9;refine⟨_,rfl,_,rfl,_,_,rfl,rfl,_,rfl,_,rfl,_,_,rfl,rfl,_,rfl,_,rfl,x,_,_,_,rfl,rfl,hS4,cB SW,_,_,rfl,rfl,_,rfl,x,_,rfl,hS4,fun lb hlb=>?_⟩;have f1:((at_+1+ns.length:Nat):Int)+1=((at_+1+ns.length+1:Nat):Int):=by omega
    have f2:((at_+1+ns.length+1:Nat):Int)+(ls.length:Int)=((at_+1+ns.length+1+ls.length:Nat):Int):=by omega
    have Xj:pA (L.map V.int) (some (((at_+1+ns.length:Nat):Int)+1)) (some (((at_+1+ns.length:Nat):Int)+1+(ls.length:Int)))=ls.map V.int:=by
     rw[f1,f2,Gh (by omega) (by omega),SS,show at_+1+ns.length+1+ls.length-(at_+1+ns.length+1)=ls.length by omega,List.take_left]
    rw[Xj];have s6:=aO (o:=.lst (ls.map V.int)) hlb;have Z9:lb≠t:=fun z=>by rw[z,Z8 _ _ ht1]at hlb;cases hlb
    refine⟨_,rfl,_,rfl,lb,_,rfl,.inl (cI.of aj),_,_,rfl,rfl,_,_,rfl,rfl,?_⟩;rw[ai];have e8:((at_+1+ns.length:Nat):Int)+(1+(ls.length:Int))=((at_+1+ns.length+1+ls.length:Nat):Int):=by omega
    have q:=last lb (at_+1+ns.length+1+ls.length) _ s6 Z9 aj (by omega) (by rw[<- Gs,SS,List.drop_left]);rw[<- e8]at q;exact n5 _ _ q
   ·have h1:¬yt cn [0,1,12,16,17]=true:=h1;rw[ao h1]at fl;have el:ls=[]:=by
     have sh:=sp.sh;cases sh with
     |c0 _ _=>exact absurd (by decide) h1
     |c1 _ _=>exact absurd (by decide) h1
     |c12 _ _ _ _=>exact absurd (by decide) h1
     |OM _ _=>exact absurd (by decide) h1
     |ON _ _ _=>exact absurd (by decide) h1
     |_=>rfl
    subst el;refine n5 _ _ (last la (at_+1+ns.length) _ (bF.refl _) nla aj (by omega) ?_);rw[<- Gs,hr0,fl,List.drop_left]
  ·rw[aK (by omega)];refine cg ⟨_,rfl,?_⟩;have e0:L.drop at_=[]:=List.drop_eq_nil_of_le (by omega);rw[e0]at tK;have e1:cs'=[]:=by
    cases f with
    |zero=>exact(aQ tK).symm
    |succ f=>exact(aQ tK).symm
   rw[e1]at heq;have heq:out++[]=CA [] cs:=heq;rw[bq]at heq;exact c H1 t tH sm (by rw[<- heq];exact ht1)
end
end Gz
namespace L2
open PySem PySem.Spec PyProof.Rows
open PySem.W (WData Codec OpenSpec Well WellAll ReadsW ReadsAllW)
mutual
inductive Dw (K:PySem.W.Frag) (H:Hp):V->WData->Prop
 |dY:Dw K H .dY .none
 |bl (b:Bool):Dw K H (.bl b) (.bool b)
 |int (i:Int):Dw K H (.int i) (.int i)
 |str (x:Str):Dw K H (.str x) (.str x)
 |Gu (b:Array UInt8):Dw K H (.Gu b) (.bytes b.toList)
 |lst {a:Addr} {xs:List V} {ds:List WData} :cI K H a xs->qc K H xs ds->Dw K H (.ref a) (.list ds)
 |tup {a:Addr} {xs:List V} {ds:List WData} :lD K H a xs->qc K H xs ds->Dw K H (.ref a) (.tuple ds)
inductive qc (K:PySem.W.Frag) (H:Hp):List V->List WData->Prop
 |nil:qc K H [] []
 |cons {v:V} {vs:List V} {d:WData} {ds:List WData} :Dw K H v d->qc K H vs ds->qc K H (v::vs) (d::ds)
end
theorem JL{K:PySem.W.Frag}{H:Hp} :∀ns:List Int,qc K H (ns.map V.int) (ns.map WData.int)
 |[]=>.nil
 |n::r=>.cons (.int n) (JL r)
theorem JM{K:PySem.W.Frag}{H:Hp} :∀(ns:List Int) (xs:List V),qc K H xs (ns.map WData.int)->xs=ns.map V.int
 |[],xs,h=>by
  cases h;rfl
 |n::r,xs,h=>by
  cases h with
  |cons h1 h2=>
   cases h1;rw[JM r _ h2]<;>rfl
section
variable{P:Program}{w:World}{K:PySem.W.Frag}{H:Hp}{h:Heap}{R:PySem.W.WRecords}{cl:Str->Option Addr}
theorem Uy{a:Addr}{xs:List V}(hok:qp P w H h)(KX:K.In h)(q:cI K H a xs):∃(its:List Value) (o:Obj) (n:Nat),cC xs its/\h.get? a=some o/\o.cls=.type "list"/\o.data=.seq its.toArray n:=by
 rcases q with q|⟨o,its,n,e,hc,_,hd,_,hv⟩
 ·obtain⟨_,its,n,hv,e⟩:=(show eX P w H h a (.lst xs)from q.ok hok)
  exact⟨its,_,n,hv,e,rfl,rfl⟩
 ·exact⟨its.toList,o,n,hv,KX _ _ e,hc,by simp[hd]⟩
theorem Uz{a:Addr}{xs:List V}(hok:qp P w H h)(KX:K.In h)(q:lD K H a xs):∃(its:List Value) (o:Obj) (n:Nat),cC xs its/\h.get? a=some o/\o.cls=.type "tuple"/\o.data=.seq its.toArray n:=by
 rcases q with q|⟨o,its,n,e,hc,hd,_,hv⟩
 ·obtain⟨_,its,hv,o,e,hc,n,hd⟩:=(show eX P w H h a (.tup xs)from q.ok hok)
  exact⟨its,o,n,hv,e,hc,hd⟩
 ·exact⟨its.toList,o,n,hv,KX _ _ e,hc,by simp[hd]⟩
mutual
theorem Dw.reads(hok:qp P w H h)(KX:K.In h):∀(d:WData) (v:V) (u:Value),Dw K H v d->cQ v u->∃as,ReadsW R cl h u d as
 | .none,_,_,x,r=>by
  cases x;cases r;exact⟨_,ReadsW.none⟩
 | .bool b,_,_,x,r=>by
  cases x;cases r;exact⟨_,ReadsW.bool b⟩
 | .int i,_,_,x,r=>by
  cases x;obtain⟨t,rfl⟩:=r;exact⟨_,ReadsW.int i t⟩
 | .str s,_,_,x,r=>by
  cases x;obtain⟨t,rfl⟩:=r;exact⟨_,ReadsW.str s t⟩
 | .bytes b,_,_,x,r=>by
  cases x;obtain⟨t,rfl⟩:=r;exact⟨_,ReadsW.bytes _ t⟩
 | .list ds,_,_,x,r=>by
  cases x with
  |lst hs ha=>
   cases r;obtain⟨its,o,n,rv,ho,hc,hd⟩:=Uy hok KX hs;obtain⟨as,hr⟩:=Dw.readsAll hok KX ds _ its ha rv;exact⟨_,ReadsW.list ho hc hd hr⟩
 | .tuple ds,_,_,x,r=>by
  cases x with
  |tup hs ha=>
   cases r;obtain⟨its,o,n,rv,ho,hc,hd⟩:=Uz hok KX hs;obtain⟨as,hr⟩:=Dw.readsAll hok KX ds _ its ha rv;exact⟨_,ReadsW.tuple ho hc hd hr⟩
 | .float _,_,_,x,_=>by cases x
 | .dict _,_,_,x,_=>by cases x
 | .bytearray _,_,_,x,_=>by cases x
 | .set _,_,_,x,_=>by cases x
 | .frozenset _,_,_,x,_=>by cases x
 | .obj _ _,_,_,x,_=>by cases x
theorem Dw.readsAll(hok:qp P w H h)(KX:K.In h):∀(ds:List WData) (vs:List V) (us:List Value),qc K H vs ds->cC vs us->∃as,ReadsAllW R cl h us ds as
 |[],_,_,x,r=>by
  cases x;cases r;exact⟨_,ReadsAllW.nil⟩
 |d::ds,_,_,x,r=>by
  cases x with
  |cons h1 h2=>
   cases r with
   |cons r1 r2=>
    obtain⟨as,q1⟩:=Dw.reads hok KX d _ _ h1 r1;obtain⟨bs,q2⟩:=Dw.readsAll hok KX ds _ _ h2 r2;exact⟨_,ReadsAllW.cons q1 q2⟩
end
end
mutual
def JN:WData->Bool
 | .none=>true
 | .bool _=>true
 | .int _=>true
 | .str _=>true
 | .bytes _=>true
 | .list xs=>yu xs
 | .tuple xs=>yu xs
 |_=>false
def yu:List WData->Bool
 |[]=>true
 |x::r=>JN x&&yu r
end
theorem Gi{α:Type}{f:α->WData}(h:∀a,JN (f a)=true):∀l:List α,yu (l.map f)=true
 |[]=>rfl
 |x::r=>by
  show(JN (f x)&&yu (r.map f))=true;rw[h x,Gi h r]<;>rfl
theorem rW:∀(c:Codec) (a:c.denote),JN (c.enc a)=true
 | .unit,_=>rfl
 | .bool,_=>rfl
 | .int _ _,_=>rfl
 | .nat _ _,_=>rfl
 | .u8,_=>rfl
 | .bytes _ _,_=>rfl
 | .text _ _ _ _,_=>rfl
 | .list _ _ c,a=>Gi (fun x=>rW c x) a
 | .pair c d,a=>by
  show(JN (c.enc a.1)&&(JN (d.enc a.2)&&true))=true;rw[rW c a.1,rW d a.2]<;>rfl
 | .triple c d e,a=>by
  show(JN (c.enc a.1)&&(JN (d.enc a.2.1)&&(JN (e.enc a.2.2)&&true)))=true;rw[rW c a.1,rW d a.2.1,rW e a.2.2]<;>rfl
 | .option c,none=>rfl
 | .option c,some x=>rW c x
theorem CB:∀(cs:List Codec) (a:Codec.denoteAll cs),yu (Codec.encAll cs a)=true
 |[],_=>rfl
 |c::cs,a=>by
  show(JN (c.enc a.1)&&yu (Codec.encAll cs a.2))=true;rw[rW c a.1,CB cs a.2]<;>rfl
theorem uI:∀{xs:List WData} {d:WData},d∈xs->d.weight<=WData.weightAll xs
 |[],d,h=>absurd h (by simp)
 |x::r,d,h=>by
  show d.weight<=x.weight+1+WData.weightAll r;rcases List.mem_cons.mp h with e|m
  ·rw[e];omega
  ·have z:=uI m;omega
def toV:Value->V
 | .none=>.dY
 | .bool b=>.bl b
 | .int i _=>.int i
 | .str x _=>.str x
 | .bytes b _=>.Gu b
 | .ref a=>.ref a
 |_=>.dY
def Lk(A:List Addr):Value->Prop
 | .none=>True
 | .bool _=>True
 | .int _ _=>True
 | .str _ _=>True
 | .bytes _ _=>True
 | .ref a=>a∈A
 |_=>False
theorem Lk.mono{A B:List Addr}(h:∀a∈A,a∈B):∀{u:Value},Lk A u->Lk B u:=fun{u} x=>by
 cases u with
 |ref a=>exact h a x
 |none=>trivial
 |bool b=>trivial
 |int i t=>trivial
 |str s t=>trivial
 |bytes b t=>trivial
 |_=>exact False.elim x
theorem Ox{A:List Addr}{u:Value}(x:Lk A u):cQ (toV u) u:=by
 cases u with
 |ref a=>rfl
 |none=>rfl
 |bool b=>rfl
 |int i t=>exact⟨t,rfl⟩
 |str s t=>exact⟨t,rfl⟩
 |bytes b t=>exact⟨t,rfl⟩
 |_=>exact False.elim x
theorem oY{A:List Addr} :∀{vs:List Value},(∀u∈vs,Lk A u)->cC (vs.map toV) vs
 |[],_=>.nil
 |u::r,h=>.cons (Ox (h u (aL ..))) (oY fun x hx=>h x (aG _ hx))
def qe(h:Heap)(A:List Addr)(a:Addr):Prop:=∃vs:List Value,vs.length<=sizeLine/\(∀u∈vs,Lk A u)/\
 (h.get? a=some {cls:=.type "list",data:=.seq vs.toArray} \/h.get? a=some {cls:=.type "tuple",data:=.seq vs.toArray})
theorem qe.mono{h:Heap}{A B:List Addr}{a:Addr}(k:∀a∈A,a∈B)(x:qe h A a):qe h B a:=by
 obtain⟨vs,h1,h2,h3⟩:=x;exact⟨vs,h1,fun u hu=>(h2 u hu).mono k,h3⟩
theorem nO{P:Params}{h:Heap} :∀{vs:List Value} {ds:List WData},WellAll P h vs ds->vs.length=ds.length
 |_,_,.nil=>rfl
 |_,_,.cons _ b=>by
  show _+1=_+1;rw[nO b]
theorem CC{P:Params}{h:Heap}{v:Value}{ds:List WData}(x:Well P h v (.list ds)):∃(a:Addr) (vs:List Value),v=.ref a/\h.get? a=some {cls:=.type "list",data:=.seq vs.toArray} /\WellAll P h vs ds:=by
 cases x with
 |list ho hall=>exact⟨_,_,rfl,ho,hall⟩
theorem AV{P:Params}{h:Heap}{v:Value}{ds:List WData}(x:Well P h v (.tuple ds)):∃(a:Addr) (vs:List Value),v=.ref a/\h.get? a=some {cls:=.type "tuple",data:=.seq vs.toArray} /\WellAll P h vs ds:=by
 cases x with
 |tuple ho hall=>exact⟨_,_,rfl,ho,hall⟩
theorem CD{P:Params}{h:Heap}{us:List Value}{d:WData}{ds:List WData}(x:WellAll P h us (d::ds)):∃(v:Value) (vs:List Value),us=v::vs/\Well P h v d/\WellAll P h vs ds:=by
 cases x with
 |cons a b=>exact⟨_,_,rfl,a,b⟩
theorem JO{n:Nat}(h:n<=1048576):n<=sizeLine:=aP h (by decide)
section
variable{P:Params}{h:Heap}
mutual
theorem Oz:∀(d:WData) (v:Value),Well P h v d->JN d=true->d.weight<=1048576->∃A:List Addr,Lk A v/\∀a∈A,qe h A a
 | .none,_,x,_,_=>by
  cases x;exact⟨[],trivial,fun a m=>absurd m (by simp)⟩
 | .bool b,_,x,_,_=>by
  cases x;exact⟨[],trivial,fun a m=>absurd m (by simp)⟩
 | .int i,_,x,_,_=>by
  cases x;exact⟨[],trivial,fun a m=>absurd m (by simp)⟩
 | .str s,_,x,_,_=>by
  cases x;exact⟨[],trivial,fun a m=>absurd m (by simp)⟩
 | .bytes b,_,x,_,_=>by
  cases x;exact⟨[],trivial,fun a m=>absurd m (by simp)⟩
 | .list ds,_,x,p,z=>by
  obtain⟨a,vs,rfl,ho,hall⟩:=CC x;have z2:WData.weightAll ds<=1048576:=z;obtain⟨A,h1,h2⟩:=wg ds _ hall p fun d hd=>aP (uI hd) z2;have k:∀b∈A,b∈a::A:=fun b hb=>aG _ hb;refine⟨a::A,aL ..,fun b hb=>?_⟩;rcases List.mem_cons.mp hb with e|m
  ·rw[e];exact⟨vs,JO (by rw[nO hall];exact aP (PySem.W.length_le_weightAllW ds) z2),fun u hu=>(h1 u hu).mono k,.inl ho⟩
  ·exact(h2 b m).mono k
 | .tuple ds,_,x,p,z=>by
  obtain⟨a,vs,rfl,ho,hall⟩:=AV x;have z2:WData.weightAll ds<=1048576:=z;obtain⟨A,h1,h2⟩:=wg ds _ hall p fun d hd=>aP (uI hd) z2;have k:∀b∈A,b∈a::A:=fun b hb=>aG _ hb;refine⟨a::A,aL ..,fun b hb=>?_⟩;rcases List.mem_cons.mp hb with e|m
  ·rw[e];exact⟨vs,JO (by rw[nO hall];exact aP (PySem.W.length_le_weightAllW ds) z2),fun u hu=>(h1 u hu).mono k,.inr ho⟩
  ·exact(h2 b m).mono k
 | .float _,_,_,p,_=>Bool.noConfusion (show false=true from p)
 | .dict _,_,_,p,_=>Bool.noConfusion (show false=true from p)
 | .bytearray _,_,_,p,_=>Bool.noConfusion (show false=true from p)
 | .set _,_,_,p,_=>Bool.noConfusion (show false=true from p)
 | .frozenset _,_,_,p,_=>Bool.noConfusion (show false=true from p)
 | .obj _ _,_,_,p,_=>Bool.noConfusion (show false=true from p)
theorem wg:∀(ds:List WData) (vs:List Value),WellAll P h vs ds->yu ds=true->(∀d∈ds,d.weight<=1048576)->∃A:List Addr,(∀u∈vs,Lk A u)/\∀a∈A,qe h A a
 |[],_,x,_,_=>by
  cases x;exact⟨[],fun u m=>absurd m (by simp),fun a m=>absurd m (by simp)⟩
 |d::ds,_,x,p,z=>by
  obtain⟨v,vs,rfl,x1,x2⟩:=CD x;have q:JN d=true/\yu ds=true:=Bool.and_eq_true_iff.mp p;obtain⟨A,a1,a2⟩:=Oz d v x1 q.1 (z d (aL ..));obtain⟨B,b1,b2⟩:=wg ds vs x2 q.2 fun e he=>z e (aG _ he);have kA:∀b∈A,b∈A++B:=fun b hb=>List.mem_append.mpr (.inl hb);have kB:∀b∈B,b∈A++B:=fun b hb=>List.mem_append.mpr (.inr hb);refine⟨A++B,fun u hu=>?_,fun b hb=>?_⟩
  ·rcases List.mem_cons.mp hu with e|m
   ·rw[e];exact a1.mono kA
   ·exact(b1 u m).mono kB
  ·rcases List.mem_append.mp hb with m|m
   ·exact(a2 b m).mono kA
   ·exact(b2 b m).mono kB
end
end
def QI(o:Obj):Option HO:=match o.data with
 | .seq vs _=>if(o.cls==Value.type "list")=true then some (.jy o (.lst (vs.toList.map toV)))else some (.jy o (.tup (vs.toList.map toV)))
 |_=>none
def pY(K:PySem.W.Frag)(h:Heap)(A:List Addr):Hp:=fun b=>if b∈A then(if(K.lookup b).isNone=true then(h.get? b).bind QI else none)else none
def Gj(H:Hp):Prop:=∀b,H b=none\/∃o u,H b=some (.jy o u)
theorem Gk(vs:List Value):QI {cls:=.type "list",data:=.seq vs.toArray} =some (.jy {cls:=.type "list",data:=.seq vs.toArray} (.lst (vs.map toV))):=by
 show(if(Value.type "list"==Value.type "list")=true then some (HO.jy {cls:=.type "list",data:=.seq vs.toArray} (.lst (vs.toArray.toList.map toV)))else some (HO.jy {cls:=.type "list",data:=.seq vs.toArray} (.tup (vs.toArray.toList.map toV))))=_;rw[aB (A4 _)]
theorem Gm(vs:List Value):QI {cls:=.type "tuple",data:=.seq vs.toArray} =some (.jy {cls:=.type "tuple",data:=.seq vs.toArray} (.tup (vs.map toV))):=by
 show(if(Value.type "tuple"==Value.type "list")=true then some (HO.jy {cls:=.type "tuple",data:=.seq vs.toArray} (.lst (vs.toArray.toList.map toV)))else some (HO.jy {cls:=.type "tuple",data:=.seq vs.toArray} (.tup (vs.toArray.toList.map toV))))=_;rw[ao (by decide)]
section
variable{P:Program}{w:World}{K:PySem.W.Frag}{h:Heap}{A:List Addr}
theorem yL{b:Addr}{o:Obj}(hb:b∈A)(hk:K.lookup b=none)(e:h.get? b=some o):pY K h A b=QI o:=by
 unfold pY;rw[aB hb,hk,aB (show(none:Option Obj).isNone=true from rfl),e]<;>rfl
theorem QJ{b:Addr}{u:HO}(q:pY K h A b=some u):b∈A/\K.lookup b=none:=by
 unfold pY at q;by_cases hb:b∈A
 ·rw[aB hb]at q;cases hk:K.lookup b with
  |none=>exact⟨hb,rfl⟩
  |some o=>
   rw[hk,ao (by simp)]at q;cases q
 ·rw[ao hb]at q;cases q
theorem yM(ar:∀a∈A,qe h A a){b:Addr}{u:HO}(q:pY K h A b=some u):K.lookup b=none/\∃vs:List Value,vs.length<=sizeLine/\(∀u∈vs,Lk A u)/\
  ((h.get? b=some {cls:=.type "list",data:=.seq vs.toArray} /\u=.jy {cls:=.type "list",data:=.seq vs.toArray} (.lst (vs.map toV)))\/
   (h.get? b=some {cls:=.type "tuple",data:=.seq vs.toArray} /\u=.jy {cls:=.type "tuple",data:=.seq vs.toArray} (.tup (vs.map toV)))):=by
 obtain⟨hb,hk⟩:=QJ q;obtain⟨vs,h1,h2,h3⟩:=ar b hb;refine⟨hk,vs,h1,h2,?_⟩;rcases h3 with e|e
 ·rw[yL hb hk e,Gk]at q;exact .inl ⟨e,(aQ q).symm⟩
 ·rw[yL hb hk e,Gm]at q;exact .inr ⟨e,(aQ q).symm⟩
theorem Ll(ar:∀a∈A,qe h A a):Gj (pY K h A):=fun b=>by
 cases q:pY K h A b with
 |none=>exact .inl rfl
 |some u=>
  obtain⟨_,vs,_,_,⟨_,e⟩|⟨_,e⟩⟩:=yM ar q
  ·exact .inr ⟨_,_,by rw[e]⟩
  ·exact .inr ⟨_,_,by rw[e]⟩
theorem QK(ar:∀a∈A,qe h A a):qp P w (pY K h A) h:=fun b u q=>by
 obtain⟨_,vs,h1,h2,⟨e,rfl⟩|⟨e,rfl⟩⟩:=yM ar q
 ·exact⟨e,by rw[ai];exact h1,vs,_,oY h2,e⟩
 ·exact⟨e,by rw[ai];exact h1,vs,oY h2,_,e,rfl,_,rfl⟩
theorem yN{c c':Value}{vs us:List Value}(e:(some {cls:=c,data:=.seq vs.toArray} :Option Obj)=some {cls:=c',data:=.seq us.toArray}):c=c'/\vs=us:=by
 have e1:=aQ e;have e2:c=c':=congrArg Obj.cls e1;have e3:Data.seq vs.toArray=Data.seq us.toArray:=congrArg Obj.data e1;injection e3 with e4
 refine⟨e2,?_⟩;have e5:=congrArg Array.toList e4;simpa using e5
theorem aab(KX:K.In h)(ar:∀a∈A,qe h A a){a:Addr}{vs:List Value}(ha:a∈A)(e:h.get? a=some {cls:=.type "list",data:=.seq vs.toArray}):(∀u∈vs,Lk A u)/\cI K (pY K h A) a (vs.map toV):=by
 obtain⟨us,h1,h2,h3⟩:=ar a ha;have hu:us=vs:=by
  rcases h3 with q|q
  ·rw[e]at q;exact(yN q).2.symm
  ·rw[e]at q;exact absurd (Value.type.inj (yN q).1) (by decide)
 subst hu;refine⟨h2,?_⟩;cases hk:K.lookup a with
 |none=>exact .inl (.inr ⟨_,by rw[yL ha hk e,Gk]⟩)
 |some o=>
  have e2:=KX a o hk;rw[e]at e2;obtain rfl:=aQ e2;exact .inr ⟨_,us.toArray,_,hk,rfl,rfl,rfl,by rw[bG];exact h1,by simpa using oY h2⟩
theorem aac(KX:K.In h)(ar:∀a∈A,qe h A a){a:Addr}{vs:List Value}(ha:a∈A)(e:h.get? a=some {cls:=.type "tuple",data:=.seq vs.toArray}):(∀u∈vs,Lk A u)/\lD K (pY K h A) a (vs.map toV):=by
 obtain⟨us,h1,h2,h3⟩:=ar a ha;have hu:us=vs:=by
  rcases h3 with q|q
  ·rw[e]at q;exact absurd (Value.type.inj (yN q).1) (by decide)
  ·rw[e]at q;exact(yN q).2.symm
 subst hu;refine⟨h2,?_⟩;cases hk:K.lookup a with
 |none=>exact .inl (.inr ⟨_,by rw[yL ha hk e,Gm]⟩)
 |some o=>
  have e2:=KX a o hk;rw[e]at e2;obtain rfl:=aQ e2;exact .inr ⟨_,us.toArray,_,hk,rfl,rfl,by rw[bG];exact h1,by simpa using oY h2⟩
mutual
theorem UA{Pm:Params}(KX:K.In h)(ar:∀a∈A,qe h A a):∀(d:WData) (v:Value),Well Pm h v d->JN d=true->Lk A v->Dw K (pY K h A) (toV v) d
 | .none,_,x,_,_=>by
  cases x;exact .dY
 | .bool b,_,x,_,_=>by
  cases x;exact .bl b
 | .int i,_,x,_,_=>by
  cases x;exact .int i
 | .str s,_,x,_,_=>by
  cases x;exact .str s
 | .bytes b,_,x,_,_=>by
  cases x;have z:=Dw.Gu (K:=K) (H:=pY K h A) b.toArray;exact z
 | .list ds,_,x,p,hu=>by
  obtain⟨a,vs,rfl,ho,hall⟩:=CC x;obtain⟨h2,hs⟩:=aab KX ar hu ho;exact .lst hs (D7 KX ar ds _ hall p h2)
 | .tuple ds,_,x,p,hu=>by
  obtain⟨a,vs,rfl,ho,hall⟩:=AV x;obtain⟨h2,hs⟩:=aac KX ar hu ho;exact .tup hs (D7 KX ar ds _ hall p h2)
 | .float _,_,_,p,_=>Bool.noConfusion (show false=true from p)
 | .dict _,_,_,p,_=>Bool.noConfusion (show false=true from p)
 | .bytearray _,_,_,p,_=>Bool.noConfusion (show false=true from p)
 | .set _,_,_,p,_=>Bool.noConfusion (show false=true from p)
 | .frozenset _,_,_,p,_=>Bool.noConfusion (show false=true from p)
 | .obj _ _,_,_,p,_=>Bool.noConfusion (show false=true from p)
theorem D7{Pm:Params}(KX:K.In h)(ar:∀a∈A,qe h A a):∀(ds:List WData) (vs:List Value),WellAll Pm h vs ds->yu ds=true->(∀u∈vs,Lk A u)->qc K (pY K h A) (vs.map toV) ds
 |[],_,x,_,_=>by
  cases x;exact .nil
 |d::ds,_,x,p,hu=>by
  obtain⟨v,vs,rfl,x1,x2⟩:=CD x;have q:JN d=true/\yu ds=true:=Bool.and_eq_true_iff.mp p;exact .cons (UA KX ar d v x1 q.1 (hu _ (aL ..))) (D7 KX ar ds vs x2 q.2 fun u m=>hu u (aG _ m))
end
end
theorem Lm{P:Program}{w:World}{K:PySem.W.Frag}{mg mb:Str->Option Value}{CX:nZ}{k:Nat}{fa:Addr}{fd:FuncData}{ps:List Str}{sp:Sp}{s₁:Shared}{vals:List Value}{ds:List WData}{R:PySem.W.WRecords}{cl:Str->Option Addr}{d0:WData}
  (KX:K.In s₁.heap) (hns:s₁.heap.Ns mainGlobals mg) (hb:s₁.heap.Ns builtinsNs mb) (hbb:∀x:Str,x≠"__name__"->mb x=bootBuiltins x) (hlim:s₁.heap.NoLimit) (hg:s₁.gens= #[])
  (hwl:WellAll w.params s₁.heap vals ds) (hpl:yu ds=true) (hwt:∀d∈ds,d.weight<=1048576) (hr:iC k callerA)
  (F:∀base:Heap,K.In base->base.Ns mainGlobals mg->jz P w K mg base CX k fa fd ps sp) (hbind:∀(s:Shared) (us:List Value),us.length=ps.length->BindsTo s fd ⟨us,[]⟩ (ps.zip us)) (hlen:ds.length=ps.length)
  (Ls:∀(H:Hp) (xs:List V),Gj H->qc K H xs ds->sp xs H (fun v H'=>Dw K H' v d0) fun _ _ _=>False)
  (Xk:∀H e s',CX [] H s₁ (fun _ _ _=>False) e s'->False):
  codeAny (model P w) callerA (.call (.ref fa) ⟨vals,[]⟩) (fun r s'=>∃u as,r=.ok (.ret u)/\ReadsW R cl s'.heap u d0 as/\OldK s₁.heap s'.heap/\s'.os=s₁.os/\AllBare s'.gens) s₁:=by
 obtain⟨A,ho,ar⟩:=wg ds vals hwl hpl hwt;have hO:Gj (pY K s₁.heap A):=Ll ar;have hok:qp P w (pY K s₁.heap A) s₁.heap:=QK ar;have hS:=D7 KX ar ds vals hwl hpl ho;have hV:=oY ho;have hK:∀b u,pY K s₁.heap A b=some u->K.lookup b=none:=fun b u q=>(yM ar q).1;have UM:∀{b:Addr} {o:Obj} {es:Array DictEntry} {ep:Nat},s₁.heap.get? b=some o->o.data=.dict es ep->pY K s₁.heap A b=none:=fun{b o es ep} e d=>by
  cases q:pY K s₁.heap A b with
  |none=>rfl
  |some u=>
   obtain⟨_,vs,_,_,⟨e2,_⟩|⟨e2,_⟩⟩:=yM ar q
   ·rw[e2]at e;cases e;have d':Data.seq vs.toArray _=Data.dict es ep:=d;cases d'
   ·rw[e2]at e;cases e;have d':Data.seq vs.toArray _=Data.dict es ep:=d;cases d'
 generalize pY K s₁.heap A=H at hO hok hS hK UM;have base_of:∀{b:Addr} {o:Obj},s₁.heap.get? b=some o->H b=none->(CL s₁.heap H).get? b=some o:=fun e n=>LC e n;have Yb:∀{b:Addr} {m:Str->Option Value},s₁.heap.Ns b m->(CL s₁.heap H).Ns b m:=fun{b m} ⟨o,es,ep,e,d,r⟩=>⟨o,es,ep,base_of e (UM e d),d,r⟩
 have nK:∀b o,K.lookup b=some o->H b=none:=fun b o e=>by
  cases q:H b with
  |none=>rfl
  |some u=>
   rw[hK b u q]at e;cases e
 have hKb:K.In (CL s₁.heap H):=fun b o e=>base_of (KX b o e) (nK b o e);have hM:Mod K mg (CL s₁.heap H):=⟨hKb,Yb hns,⟨mb,Yb hb,hbb⟩,let ⟨mc,h1,h2⟩:=hlim;⟨mc,Yb h1,h2⟩⟩
 have e0:GO P w K mg (CL s₁.heap H) callerA [] s₁ H:=⟨rfl,hM,fun b o e=>OQ e,Nat.le_of_eq (JU _ _),trivial,fun b hb=>absurd (show b∈([]:List Addr)from hb) (by simp),hok,.of_eq hg⟩
 have hl:vals.length=ps.length:=by rw[nO hwl];exact hlen
 refine jQ ((F _ hKb (Yb hns)).run callerA [] s₁ H ⟨vals,[]⟩ vals (vals.map toV) _ _ hr e0 (hbind s₁ vals hl) hV (Ls H _ hO hS)) fun r s' x=>?_;cases r with
 |error e=>exact(Xk H e s' x).elim
 |ok fl=>
  cases fl with
  |next=>exact False.elim x
  |brk=>exact False.elim x
  |cont=>exact False.elim x
  |ret u=>
   obtain⟨v,H',os,bare,un,Xl,r',q⟩:=x;have kept:∀b o,s₁.heap.get? b=some o->s'.heap.get? b=some o:=fun b o e=>by
    cases q2:H b with
    |none=>exact un.keep b o e q2 (by intro z;exact absurd (show b∈([]:List Addr)from z) (by simp)) (by simp)
    |some u2=>
     rcases hO b with z|⟨ob,u3,z⟩
     ·rw[q2]at z;cases z
     ·have z2:=un.uO b ob _ z;obtain⟨e1,_⟩:=hok b _ z;obtain⟨e2,_⟩:=Xl b _ z2;rw[e]at e1;cases e1;exact e2
   have KX':K.In s'.heap:=fun b o e=>kept b o (KX b o e);obtain⟨as,hrd⟩:=Dw.reads (R:=R) (cl:=cl) Xl KX' d0 v u q r';exact⟨u,as,rfl,hrd,OldK.of_keep kept,os,bare⟩
theorem AW{ds:List WData}(h:WData.layableAll ds=true):∀d∈ds,d.weight<=1048576:=fun d hd=>
 (PySem.W.layableW_iff.mp (List.all_eq_true.mp h d hd)).2.2
theorem AX:∀(cs:List Codec) (a:Codec.denoteAll cs),(Codec.encAll cs a).length=cs.length
 |[],_=>rfl
 |c::cs,a=>by
  show(Codec.encAll cs a.2).length+1=cs.length+1;rw[AX cs a.2]
theorem Ln{r:OpenSpec}{k:Nat}{q:Program}{loose:List Str}{XP:(Str->Option Value)->Heap->Prop}{YP:World->Heap->Prop}{d:DefRec}{K:Params->PySem.W.Frag}{CX:World->nZ}{ps:List Str}{sp:World->Sp}
  (OA:r.wellSaid=true) (hdf:d.params.defaults=[]) (hlen:r.args.length=ps.length) (hr:iC k callerA)
  (hY:∀(w:World) (h:Heap),YP w h->(K w.params).In h)
  (F:∀(w:World) (mg:Str->Option Value) (fa:Addr) (h:Heap),YP w h->(K w.params).In h->h.Ns mainGlobals mg->mg d.name=some (.ref fa)->
   ∃fd:FuncData,(∀(s:Shared) (us:List Value),us.length=ps.length->BindsTo s fd ⟨us,[]⟩ (ps.zip us))/\
    ∀base:Heap,(K w.params).In base->base.Ns mainGlobals mg->jz r.prog w (K w.params) mg base (CX w) k fa fd ps (sp w))
  (Ls:∀(w:World) (H:Hp) (xs:List V) (a:Codec.denoteAll r.args),Gj H->Codec.withinAll r.args a=true->Codec.app r.args r.asked a=true->qc (K w.params) H xs (Codec.encAll r.args a)->
   sp w xs H (fun v H'=>Dw (K w.params) H' v (r.ret.enc (Codec.app r.args r.f a))) fun _ _ _=>False)
  (Xk:∀(w:World) (H:Hp) (s:Shared) (e:Value) (s':Shared),CX w [] H s (fun _ _ _=>False) e s'->False):
  PySem.W.WalkOS q loose XP YP r d [] (fun f vs=>PySem.call f vs):=by
 intro w Bb s₁ mg mb G Y fa o pm cd doc dV kV ho hd hcd hD hmg hg args vals as hpre hlay hrd hwl hlo;obtain⟨a,e1,e2⟩:=PySem.W.os_pre_some hpre;obtain⟨e3,hwi⟩:=Codec.encAll_of_decAll r.args args a e1;subst e3;have KX:=hY w _ Y;obtain⟨fd,hb,hF⟩:=F w mg fa _ Y KX G.T.g hmg;refine PySem.W.enter_call (jQ (Lm (R:=[]) (cl:=classAt Bb.heap) (d0:=r.ret.enc (Codec.app r.args r.f a)) KX G.T.g G.T.b G.T.builtins G.T.nolimit hg hwl (CB _ _) (AW hlay) hr hF hb (by rw[AX];exact hlen)
  (fun H xs hO hS=>Ls w H xs a hO hwi e2 hS) fun H e s'=>Xk w H s₁ e s') fun r' s' hq=>?_)
 obtain⟨u,as',rfl,h1,h2,h3,h4⟩:=hq;exact⟨.inl ⟨u,_,as',rfl,fun _=>rfl,h1,(OpenSpec.post_iff OA hwi _ _).mpr rfl,fun z=>Bool.noConfusion (show false=true from z)⟩,h2,h3,h4⟩
theorem Ii{r:OpenSpec}{k:Nat}{q:Program}{loose:List Str}{XP:(Str->Option Value)->Heap->Prop}{YP:World->Heap->Prop}{d:DefRec}{K:Params->PySem.W.Frag}{CX:nZ}{ps:List Str}{sp:PySem.W.Frag->Sp}
  (OA:r.wellSaid=true) (hdf:d.params.defaults=[]) (hlen:r.args.length=ps.length) (hr:iC k callerA)
  (hY:∀(w:World) (h:Heap),YP w h->(K w.params).In h)
  (F:∀(w:World) (mg:Str->Option Value) (fa:Addr) (h:Heap),YP w h->(K w.params).In h->h.Ns mainGlobals mg->mg d.name=some (.ref fa)->
   ∃fd:FuncData,(∀(s:Shared) (us:List Value),us.length=ps.length->BindsTo s fd ⟨us,[]⟩ (ps.zip us))/\
    ∀base:Heap,(K w.params).In base->base.Ns mainGlobals mg->jz r.prog w (K w.params) mg base CX k fa fd ps (sp (K w.params)))
  (Ls:∀(K:PySem.W.Frag) (H:Hp) (xs:List V) (a:Codec.denoteAll r.args),Gj H->Codec.withinAll r.args a=true->Codec.app r.args r.asked a=true->qc K H xs (Codec.encAll r.args a)->
   sp K xs H (fun v H'=>Dw K H' v (r.ret.enc (Codec.app r.args r.f a))) fun _ _ _=>False)
  (Xk:∀(H:Hp) (s:Shared) (e:Value) (s':Shared),CX [] H s (fun _ _ _=>False) e s'->False):
  PySem.W.WalkOS q loose XP YP r d [] (fun f vs=>PySem.call f vs):=
 Ln (K:=K) (CX:=fun _=>CX) (sp:=fun w=>sp (K w.params)) OA hdf hlen hr hY F (fun w H xs a h1 h2 h3 h4=>Ls (K w.params) H xs a h1 h2 h3 h4) fun _ H s e s'=>Xk H s e s'
end L2
namespace Gz
open PySem PySem.Spec PyProof.Rows L2
theorem us1{fd:FuncData}{ps:List Str}(us:List Value)(h:us.length=1)(k:∀a,bindArgs fd ⟨[a],[]⟩=pure (ps.zip [a])):bindArgs fd ⟨us,[]⟩=pure (ps.zip us):=match us,h with|[a],_=>k a
theorem us2{fd:FuncData}{ps:List Str}(us:List Value)(h:us.length=2)(k:∀a b,bindArgs fd ⟨[a,b],[]⟩=pure (ps.zip [a,b])):bindArgs fd ⟨us,[]⟩=pure (ps.zip us):=match us,h with|[a,b],_=>k a b
theorem us3{fd:FuncData}{ps:List Str}(us:List Value)(h:us.length=3)(k:∀a b c,bindArgs fd ⟨[a,b,c],[]⟩=pure (ps.zip [a,b,c])):bindArgs fd ⟨us,[]⟩=pure (ps.zip us):=match us,h with|[a,b,c],_=>k a b c
theorem us4{fd:FuncData}{ps:List Str}(us:List Value)(h:us.length=4)(k:∀a b c d,bindArgs fd ⟨[a,b,c,d],[]⟩=pure (ps.zip [a,b,c,d])):bindArgs fd ⟨us,[]⟩=pure (ps.zip us):=match us,h with|[a,b,c,d],_=>k a b c d
theorem us5{fd:FuncData}{ps:List Str}(us:List Value)(h:us.length=5)(k:∀a b c d e,bindArgs fd ⟨[a,b,c,d,e],[]⟩=pure (ps.zip [a,b,c,d,e])):bindArgs fd ⟨us,[]⟩=pure (ps.zip us):=match us,h with|[a,b,c,d,e],_=>k a b c d e
section
variable{K:PySem.W.Frag}{h:Heap}{mg:Str->Option Value}
theorem UB{x:Str}{st:Stmt}{ps:List Str}{f:Addr}{oc:Value}{od an:Option Addr}{osl:Array (Option Value)}{kV doc pm cdv ct:Value}(X:K.In h)(G:h.Ns mainGlobals mg)(a:PySem.W.nsIn K mainGlobals x=some (some (.ref f)))
  (l:K.lookup f=some ⟨oc,od,.func (PySem.W.fnOf x x (iD st) (gB st) (aN st) .none kV doc pm an cdv ct),osl⟩) (c:PySem.W.codeIn K cdv x=true) (k:PySem.W.keepIn K (.ref f)=true)
  (b:∀(kV doc pm:Value) (an:Option Addr) (cdv ct:Value) (us:List Value),us.length=ps.length->bindArgs (PySem.W.fnOf x x (iD st) (gB st) (aN st) .none kV doc pm an cdv ct) ⟨us,[]⟩=pure (ps.zip us)):
  jv K mg x st ps:=⟨f,_,qL l c k,(qL l c k).binds b,pZ X G a⟩
theorem QL{C:Addr}{q m:Str}{st:Stmt}{ps:List Str}{f:Addr}{oc:Value}{od an:Option Addr}{osl:Array (Option Value)}{kV doc pm cdv ct:Value}(a:PySem.W.findIn K (.ref C) m=some (some (.ref f)))(i:PySem.W.isFn K (.ref f)=true)
  (l:K.lookup f=some ⟨oc,od,.func (PySem.W.fnOf m q (iD st) (gB st) (aN st) .none kV doc pm an cdv ct),osl⟩) (c:PySem.W.codeIn K cdv q=true) (k:PySem.W.keepIn K (.ref f)=true)
  (b:∀(kV doc pm:Value) (an:Option Addr) (cdv ct:Value) (us:List Value),us.length=ps.length->bindArgs (PySem.W.fnOf m q (iD st) (gB st) (aN st) .none kV doc pm an cdv ct) ⟨us,[]⟩=pure (ps.zip us)):
  yo K C q m st ps:=⟨f,_,qL l c k,(qL l c k).binds b,a,i,k⟩
theorem QM{C:Addr}{x q:Str}{st:Stmt}{ps:List Str}{f:Addr}{oc:Value}{od an:Option Addr}{osl:Array (Option Value)}{kV doc pm cdv ct:Value}(X:K.In h)(G:h.Ns mainGlobals mg)(z:PySem.W.nsIn K mainGlobals x=some (some (.ref C)))(mk:PySem.W.makesIn K C=true)(kc:PySem.W.keepIn K (.ref C)=true)
  (a:PySem.W.findIn K (.ref C) "__init__"=some (some (.ref f))) (i:PySem.W.isFn K (.ref f)=true)
  (l:K.lookup f=some ⟨oc,od,.func (PySem.W.fnOf "__init__" q (iD st) (gB st) (aN st) .none kV doc pm an cdv ct),osl⟩) (c:PySem.W.codeIn K cdv q=true) (k:PySem.W.keepIn K (.ref f)=true)
  (b:∀(kV doc pm:Value) (an:Option Addr) (cdv ct:Value) (us:List Value),us.length=ps.length->bindArgs (PySem.W.fnOf "__init__" q (iD st) (gB st) (aN st) .none kV doc pm an cdv ct) ⟨us,[]⟩=pure (ps.zip us)):
  Hw K mg C x q st ps:=⟨f,_,qL l c k,(qL l c k).binds b,⟨mk,a,i,kc⟩,pZ X G z⟩
theorem QN{q:Str}{st:Stmt}{ps:List Str}{f:Addr}{oc:Value}{od an:Option Addr}{osl:Array (Option Value)}{kV doc pm cdv ct:Value}(i:PySem.W.isFn K (.ref f)=true)
  (l:K.lookup f=some ⟨oc,od,.func (PySem.W.fnOf "__init__" q (iD st) (gB st) (aN st) .none kV doc pm an cdv ct),osl⟩) (c:PySem.W.codeIn K cdv q=true) (k:PySem.W.keepIn K (.ref f)=true)
  (b:∀(kV doc pm:Value) (an:Option Addr) (cdv ct:Value) (us:List Value),us.length=ps.length->bindArgs (PySem.W.fnOf "__init__" q (iD st) (gB st) (aN st) .none kV doc pm an cdv ct) ⟨us,[]⟩=pure (ps.zip us)):
  Wh K f q st ps:=⟨_,qL l c k,(qL l c k).binds b,i⟩
theorem Xm{x:Str}{i:Int}{t:Tok}(X:K.In h)(G:h.Ns mainGlobals mg)(a:PySem.W.nsIn K mainGlobals x=some (some (.int i t))):GI mg x i:=⟨t,pZ X G a⟩
theorem Ij{a:Addr}{xs:List V}{od:Option Addr}{its:Array Value}{n:Nat}{sl:Array (Option Value)}(l:K.lookup a=some ⟨.type "tuple",od,.seq its n,sl⟩)(z:its.size<=sizeLine)(v:cC xs its.toList):∀H,lD K H a xs:=
 fun H=>Or.inr ⟨_,its,n,l,rfl,rfl,z,v⟩
theorem Xn{x:Str}{ns:List Int}{a:Addr}{od:Option Addr}{its:Array Value}{n:Nat}{sl:Array (Option Value)}(X:K.In h)(G:h.Ns mainGlobals mg)(e:PySem.W.nsIn K mainGlobals x=some (some (.ref a)))(l:K.lookup a=some ⟨.type "tuple",od,.seq its n,sl⟩)
  (z:its.size<=sizeLine) (v:cC (ns.map V.int) its.toList):GT K mg x ns:=⟨a,pZ X G e,Ij l z v⟩
theorem QO{C N:Addr}{i:Option Value}{nm q:Str}{bs:List Value}{sn:List Str}{sub:List Value}{ab:Bool}{col:Option Bool}{dd:Option Addr}{k0 k1 k2 k3 k5:Option Value}(o:K.lookup C=some (excClassObj nm q C N bs VE true sn sub ab col dd k0 k1 k2 k3 k5 "ValueError.__new__"))
  (ok:PySem.W.nsOkIn K N=true) (ini:PySem.W.nsIn K N "__init__"=some i) (ga:PySem.W.nsIn K N "__getattribute__"=some none) (gt:PySem.W.nsIn K N "__getattr__"=some none) (sa:PySem.W.nsIn K N "__setattr__"=some none) (kp:PySem.W.keepIn K (.ref C)=true):wU K C N i:=
 ⟨⟨_,_,_,_,_,_,_,_,_,_,_,_,_,o⟩,ok,ini,ga,gt,sa,kp⟩
theorem Lo{N:Addr}(e:PySem.W.nsIn K N "place"=some none):XH K N "place":=⟨e,by rw[oq,gZ];kernel_rfl⟩
def iA(K:PySem.W.Frag)(es:Array DictEntry)(c:Nat):Prop:=∃b,(es.find? fun e=>p5 (Sum.inl (c:Int)) e.key).map (·.val)=some (.ref b)/\M4 K b (CK c)
theorem Xo{v:V}(h:v=.dY):Jd K v none:=h
theorem kR{t:Addr}{p:Int×Int}{od:Option Addr}{its:Array Value}{n:Nat}{sl:Array (Option Value)}(l:K.lookup t=some ⟨.type "tuple",od,.seq its n,sl⟩)(z:its.size<=sizeLine)(v:cC [.int p.1,.int p.2] its.toList):Jd K (.ref t) (some p):=
 ⟨t,rfl,Ij l z v⟩
theorem gv{es:Array DictEntry}{c:Nat}{b:Addr}{vs:List V}{od:Option Addr}{its:Array Value}{n:Nat}{sl:Array (Option Value)}(f:(es.find? fun e=>p5 (Sum.inl (c:Int)) e.key).map (·.val)=some (.ref b))(l:K.lookup b=some ⟨.type "tuple",od,.seq its n,sl⟩)
  (z:its.size<=sizeLine) (v:cC vs its.toList) (p:Paired (Jd K) vs (CK c)):iA K es c:=⟨b,f,vs,Ij l z v,p⟩
def AY:List DictEntry->Prop
 |[]=>True
 |e::r=>(∃i t,e.key=.int i t/\e.hash=hashInt i)/\AY r
theorem AY.all:∀{l:List DictEntry},AY l->∀e∈l,∃i t,e.key=.int i t/\e.hash=hashInt i
 |[],_,e,h=>nomatch h
 |x::r,k,e,h=>by
  rcases List.mem_cons.mp h with rfl|h
  ·exact k.1
  ·exact AY.all k.2 e h
theorem UC{es:Array DictEntry}(h0:iA K es 0)(h1:iA K es 1)(h2:iA K es 2)(h3:iA K es 3)(h4:iA K es 4)(h5:iA K es 5)(h6:iA K es 6)(h7:iA K es 7)(h8:iA K es 8)(h9:iA K es 9)
  (X3:iA K es 10) (h11:iA K es 11) (h12:iA K es 12) (SK:iA K es 13) (X4:iA K es 14) (UQ:iA K es 15) (X5:iA K es 16) (X6:iA K es 17) (X7:iA K es 18) (X8:iA K es 19):∀c:Nat,c<20->iA K es c
 |0,_=>h0|1,_=>h1|2,_=>h2|3,_=>h3|4,_=>h4|5,_=>h5|6,_=>h6|7,_=>h7|8,_=>h8|9,_=>h9
 |10,_=>X3|11,_=>h11|12,_=>h12|13,_=>SK|14,_=>X4|15,_=>UQ|16,_=>X5|17,_=>X6|18,_=>X7|19,_=>X8
 |c+20,h=>absurd h (by omega)
theorem Xp{a:Addr}{es:Array DictEntry}{ep:Nat}(X:K.In h)(G:h.Ns mainGlobals mg)(e:PySem.W.nsIn K mainGlobals "RANGES"=some (some (.ref a)))(l:K.lookup a=some ⟨.type "dict",none,.dict es ep, #[]⟩)
  (hk:AY es.toList) (rows:∀c:Nat,c<20->iA K es c):GR K mg:=⟨a,es,⟨⟨_,ep,l,⟨rfl,rfl,rfl⟩,rfl⟩,hk.all⟩,pZ X G e,rows⟩
theorem UD{P:Program}{w:World}{fa:Addr}{A:Ad}(hfa:mg "answers"=some (.ref fa))(T:gQ K mg A):
  ∃fd:FuncData,(∀(s:Shared) (us:List Value),us.length=(["calls"]:List Str).length->BindsTo s fd ⟨us,[]⟩ ((["calls"]:List Str).zip us))/\∀base:Heap,K.In base->base.Ns mainGlobals mg->jz P w K mg base ig 13 fa fd ["calls"] (xx K):=by
 obtain⟨f,fd,F,b,m⟩:=id T.KL;have e:=hfa.symm.trans m;cases e;have H:∃(kV doc pm:Value) (an:Option Addr) (cdv ct:Value),fd=PySem.W.fnOf "answers" "answers" (iD l7) (gB l7) (aN l7) .none kV doc pm an cdv ct:=by
  obtain⟨oc,od,kV,doc,pm,an,cdv,ct,osl,e,lk,hcd⟩:=F.ex;exact⟨kV,doc,pm,an,cdv,ct,e⟩
 obtain⟨kV,doc,pm,an,cdv,ct,e⟩:=H;refine⟨fd,fun s us hu=>?_,fun base _ _=>Ih T F⟩;subst e;exact match us,hu with|[_],_=>.of_eq rfl
end
end Gz
namespace PySem.W.Fast
def tw829670786260859230:=0
def tw12787979831815047794:=0
def tw13447819219856108583:=0
def tw9249005453011738869:=0
def tw2638286295936016376:=0
def tw7772999857997557609:=0
def tw934124705934441006:=0
def tw1054796274504203815:=0
def tw9699247616466271295:=0
def tw3786193924664994351:=0
def tw17699683164036867060:=0
def tw3090426562297722338:=0
def tw13341283322533387913:=0
def tw9051250518508795715:=0
def tw17795686510700860434:=0
def tw2552857115528707728:=0
def tw4131746884478901682:=0
def tw11923694698327180627:=0
def tw17904545571803892199:=0
def tw3043383402321114827:=0
def tw3260979047290941205:=0
def tw5420276316727739880:=0
def tw9759342939939788462:=0
def tw11948942231093349679:=0
def tw9263720723869894585:=0
def tw5700079938817285865:=0
def tw16234276991448454279:=0
def tw17441585716844426209:=0
def tw13922205778190878278:=0
def tw9749106447618208143:=0
def tw1402440044725335980:=0
def tw11782129696915311067:=0
def tw7318867950234272332:=0
def tw10624223514464896801:=0
def tw14369309973281842049:=0
def tw642518387228739814:=0
def tw14531545185661593580:=0
def tw12189828429968589257:=0
def tw15039730435042091771:=0
def tw16139084499864432027:=0
def tw9326574694500722158:=0
def tw13222793802614543095:=0
def tw8705797113550628812:=0
def tw1676511374171288417:=0
def tw16308778952725185202:=0
def tw3041429029797201579:=0
def tw8905279358543195538:=0
def tw10878680979132576340:=0
def tw5903468679832429562:=0
def tw11748598809874853073:=0
def tw10817676972959358791:=0
def tw12191008631243667372:=0
def tw6674513221219789142:=0
def tw13403530184361717035:=0
def tw196479759733056229:=0
def tw6159930082858429899:=0
def tw10054367965510604941:=0
def tw17594003627029012642:=0
def tw8073719711273699094:=0
def tw12319730937445146086:=0
def tw11240882360041759838:=0
def tw16673063963436120290:=0
def tw14542524135465269476:=0
def tw6916265318011204503:=0
def tw3222181963033443918:=0
def tw7620329863902245624:=0
def tw16638650812960587210:=0
def tw7902459326533230766:=0
def tw4059531486440849968:=0
def tw1401395683681198076:=0
def tw18370842755523660376:=0
def tw15658036550197095825:=0
def tw67035563576909762:=0
def tw1304905741718433137:=0
def tw14716599445638347336:=0
def tw15906604555148806679:=0
def tw3083887818923648158:=0
def tw15097440158323646297:=0
def tw18106196429402068517:=0
def tw18385939759690275374:=0
def tw6167553648335752001:=0
def tw16925673732480050986:=0
def tw1102728477166302313:=0
def tw11240488652188558380:=0
def tw8522256494490221221:=0
def tw5286450488453154031:=0
def tw8106207101376391516:=0
def tw12346497084759161457:=0
def tw5870281005162336704:=0
def tw11761351349861183201:=0
def tw13945407154367831944:=0
def tw17419147096598711930:=0
def tw6286216689361025403:=0
def tw6960807541967417709:=0
def tw16805170037522149152:=0
def tw12606610898264166335:=0
def tw5197367933924495720:=0
def tw1411526987680003537:=0
def tw8021315626120983997:=0
def tw1203921309919027603:=0
def tw6807054658979448369:=0
def tw16060462867900130013:=0
def tw5047943607656045901:=0
def tw14967218073465370245:=0
def tw17192956554374443070:=0
def tw7634248377066961693:=0
def tw796385183733405669:=0
def tw4709772041796255838:=0
def tw18083142326000043776:=0
def tw12007817878341704623:=0
def tw17421196189791631557:=0
def tw11318110298497170252:=0
def tw9359645354430764678:=0
def tw14016475691160925517:=0
def tw5151724206261949919:=0
def tw13540532811212347669:=0
def tw6488827219603917659:=0
def tw504552747876518579:=0
def tw10847175308258384935:=0
def tw9077438149638044993:=0
def tw18062719375647730232:=0
def tw2940972831898435236:=0
def tw17168728286166020646:=0
def tw12740933445678463266:=0
def tw14521678127056691868:=0
def tw11368102430103359198:=0
def tw7549165429255268287:=0
def tw4418820949607605631:=0
def tw9061861341717366402:=0
def tw1979742609381074485:=0
def tw13466442411903462640:=0
def tw3340095303416183383:=0
def tw8882224854706028178:=0
def tw8530397870304566933:=0
def tw4410806763087293496:=0
def tw2486404231379785415:=0
def tw15745447715734643478:=0
def tw9886243656522808262:=0
def tw573483750005922669:=0
def tw9738968307436938707:=0
def tw1347088872400382616:=0
def tw4260513571773107906:=0
def tw18152934458149363729:=0
def tw4769734330219852826:=0
def tw6168408834968194208:=0
def tw1854418794968851672:=0
def tw192406458127562831:=0
def tw1477891348661678391:=0
def tw13456651131263633388:=0
def tw9415517217139738452:=0
def tw4745235089372949049:=0
def tw10432516566279517790:=0
def tw3687508724091600532:=0
def tw1934097553836611880:=0
def tw4782036080160258225:=0
def tw5782633416407401464:=0
def tw696087801185834638:=0
def tw10348642731970112473:=0
def tw16810399030214874568:=0
end PySem.W.Fast
open PySem PySem.W PyProof.Rows
set_option maxRecDepth 100000 in
set_option maxHeartbeats 0 in
theorem PySem.Challenge.cw_issuerolls_s01_answers_holds : PySem.Challenge.rw_issuerolls_s01_answers.Holds := by
 w_on;k_headS;(case hw=>exact⟨[.list [.int 2]],by decide +kernel,by decide +kernel⟩)
 k_fillS
 refine L2.Ii (r:=PySem.Challenge.rw_issuerolls_s01_answers) (k:=13) (CX:=L2.ig) (ps:=["calls"]) (sp:=Gz.xx) (by decide +kernel) rfl rfl ⟨rfl,by decide,by decide⟩ (fun w h Y=>PySem.W.kIn_of Y) ?F ?S (fun _ _ _ _ z=>z)
 case F=>
  intro w mg fa h Y KX G hmg
  refine' Gz.UD (A:=⟨71,70,68,204,203,190,224,245,266⟩) hmg ?_
  constructor
  ·constructor<;>exact PySem.W.mg_none_of KX G (by k_is)
  iterate 3 exact PySem.W.mg_none_of KX G (by k_is)
  iterate 2 (apply Gz.QO;k_is;kernel_rfl;(iterate 5 k_is))
  ·decide
  ·exact Gz.Lo (by k_is)
  iterate 2 exact pZ KX G (by k_is)
  iterate 4 exact⟨by k_is,by k_is,by k_is,by k_is⟩
  iterate 12 (show PySem.W.findIn _ _ _=_;k_is)
  iterate 5 (apply Gz.Xn KX G;(iterate 2 k_is);decide;repeat (first|exact .nil|refine .cons ⟨_,rfl⟩ ?_))
  ·apply Gz.Xp KX G;(iterate 2 k_is)
   ·exact⟨⟨_,_,rfl,by decide +kernel⟩,⟨⟨_,_,rfl,by decide +kernel⟩,⟨⟨_,_,rfl,by decide +kernel⟩,⟨⟨_,_,rfl,by decide +kernel⟩,⟨⟨_,_,rfl,by decide +kernel⟩,⟨⟨_,_,rfl,by decide +kernel⟩,⟨⟨_,_,rfl,by decide +kernel⟩,⟨⟨_,_,rfl,by decide +kernel⟩,⟨⟨_,_,rfl,by decide +kernel⟩,⟨⟨_,_,rfl,by decide +kernel⟩,⟨⟨_,_,rfl,by decide +kernel⟩,⟨⟨_,_,rfl,by decide +kernel⟩,⟨⟨_,_,rfl,by decide +kernel⟩,⟨⟨_,_,rfl,by decide +kernel⟩,⟨⟨_,_,rfl,by decide +kernel⟩,⟨⟨_,_,rfl,by decide +kernel⟩,⟨⟨_,_,rfl,by decide +kernel⟩,⟨⟨_,_,rfl,by decide +kernel⟩,⟨⟨_,_,rfl,by decide +kernel⟩,⟨⟨_,_,rfl,by decide +kernel⟩,trivial⟩⟩⟩⟩⟩⟩⟩⟩⟩⟩⟩⟩⟩⟩⟩⟩⟩⟩⟩⟩
   apply Gz.UC
   ·apply Gz.gv (b:=472) (vs:=[]);kernel_rfl;k_is;decide;exact .nil;exact .nil
   ·apply Gz.gv (b:=473) (vs:=[]);kernel_rfl;k_is;decide;exact .nil;exact .nil
   ·apply Gz.gv (b:=474) (vs:=[]);kernel_rfl;k_is;decide;exact .nil;exact .nil
   ·apply Gz.gv (b:=475) (vs:=[]);kernel_rfl;k_is;decide;exact .nil;exact .nil
   ·apply Gz.gv (b:=477) (vs:=[.ref 476]);kernel_rfl;k_is;decide
    ·exact .cons rfl (.nil)
    refine .cons ?_ (.nil)<;>(apply Gz.kR;k_is;decide;exact .cons ⟨_,rfl⟩ (.cons ⟨_,rfl⟩ .nil))
   ·apply Gz.gv (b:=480) (vs:=[.ref 478,.ref 479]);kernel_rfl;k_is;decide
    ·exact .cons rfl (.cons rfl (.nil))
    refine .cons ?_ (.cons ?_ (.nil))<;>(apply Gz.kR;k_is;decide;exact .cons ⟨_,rfl⟩ (.cons ⟨_,rfl⟩ .nil))
   ·apply Gz.gv (b:=481) (vs:=[]);kernel_rfl;k_is;decide;exact .nil;exact .nil
   ·apply Gz.gv (b:=483) (vs:=[.ref 482]);kernel_rfl;k_is;decide
    ·exact .cons rfl (.nil)
    refine .cons ?_ (.nil)<;>(apply Gz.kR;k_is;decide;exact .cons ⟨_,rfl⟩ (.cons ⟨_,rfl⟩ .nil))
   ·apply Gz.gv (b:=486) (vs:=[.ref 484,.ref 485]);kernel_rfl;k_is;decide
    ·exact .cons rfl (.cons rfl (.nil))
    refine .cons ?_ (.cons ?_ (.nil))<;>(apply Gz.kR;k_is;decide;exact .cons ⟨_,rfl⟩ (.cons ⟨_,rfl⟩ .nil))
   ·apply Gz.gv (b:=489) (vs:=[.ref 487,.ref 488]);kernel_rfl;k_is;decide
    ·exact .cons rfl (.cons rfl (.nil))
    refine .cons ?_ (.cons ?_ (.nil))<;>(apply Gz.kR;k_is;decide;exact .cons ⟨_,rfl⟩ (.cons ⟨_,rfl⟩ .nil))
   ·apply Gz.gv (b:=490) (vs:=[.dY,.dY]);kernel_rfl;k_is;decide
    ·exact .cons rfl (.cons rfl (.nil))
    exact .cons rfl (.cons rfl (.nil))
   ·apply Gz.gv (b:=491) (vs:=[.dY,.dY]);kernel_rfl;k_is;decide
    ·exact .cons rfl (.cons rfl (.nil))
    exact .cons rfl (.cons rfl (.nil))
   ·apply Gz.gv (b:=494) (vs:=[.ref 492,.ref 493]);kernel_rfl;k_is;decide
    ·exact .cons rfl (.cons rfl (.nil))
    refine .cons ?_ (.cons ?_ (.nil))<;>(apply Gz.kR;k_is;decide;exact .cons ⟨_,rfl⟩ (.cons ⟨_,rfl⟩ .nil))
   ·apply Gz.gv (b:=496) (vs:=[.ref 495]);kernel_rfl;k_is;decide
    ·exact .cons rfl (.nil)
    refine .cons ?_ (.nil)<;>(apply Gz.kR;k_is;decide;exact .cons ⟨_,rfl⟩ (.cons ⟨_,rfl⟩ .nil))
   ·apply Gz.gv (b:=497) (vs:=[.dY]);kernel_rfl;k_is;decide
    ·exact .cons rfl (.nil)
    exact .cons rfl (.nil)
   ·apply Gz.gv (b:=498) (vs:=[.dY]);kernel_rfl;k_is;decide
    ·exact .cons rfl (.nil)
    exact .cons rfl (.nil)
   ·apply Gz.gv (b:=499) (vs:=[]);kernel_rfl;k_is;decide;exact .nil;exact .nil
   ·apply Gz.gv (b:=502) (vs:=[.ref 501]);kernel_rfl;k_is;decide
    ·exact .cons rfl (.nil)
    refine .cons ?_ (.nil)<;>(apply Gz.kR;k_is;decide;exact .cons ⟨_,rfl⟩ (.cons ⟨_,rfl⟩ .nil))
   ·apply Gz.gv (b:=503) (vs:=[.dY]);kernel_rfl;k_is;decide
    ·exact .cons rfl (.nil)
    exact .cons rfl (.nil)
   ·apply Gz.gv (b:=504) (vs:=[]);kernel_rfl;k_is;decide;exact .nil;exact .nil
  iterate 72 ((first|(apply Gz.UB KX G;(iterate 4 k_is))|(apply Gz.QL;(iterate 5 k_is))|(apply Gz.QM KX G;(iterate 8 k_is))|(apply Gz.QN;(iterate 4 k_is)));intro _ _ _ _ _ _ us hl;first|exact Gz.us1 us hl fun _=>rfl|exact Gz.us2 us hl fun _ _=>rfl|exact Gz.us3 us hl fun _ _ _=>rfl|exact Gz.us4 us hl fun _ _ _ _=>rfl|exact Gz.us5 us hl fun _ _ _ _ _=>rfl)
  iterate 26 exact Gz.Xm KX G (by k_is)
 case S=>
  intro K H xs a hO hwi BG hx;cases hx with
  |cons h1 h2=>
   cases h2;cases h1 with
   |lst hs ha=>
    have e:=L2.JM a.1 _ ha;subst e;have q:((Codec.inLen 0 16000 a.1&&a.1.all (Codec.inInt (-9223372036854775808) 9223372036854775807))&&true)=true:=hwi;rw[bB,bB]at q;exact⟨_,a.1,rfl,hs,(Codec.inNat_iff.mp q.1.1).2,BG,fun H' p hp _ hp2=>.lst (L2.cI.of hp2) (L2.JL _)⟩
