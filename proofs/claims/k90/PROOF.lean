import PyProof.Rows.All
import Wide.All
import OpenK.AllK
import Wide.FinOn
import PySem.Challenge.RW_floorcurves_k90_whole_four_roads
import Lean
import PyProof.EqAt
import PyProof.EqKinds
import PyProof.TupleCall
local macro_rules | `(command|def $n:declId $s:optDeclSig $v:declVal)=>`(command|noncomputable def $n:declId $s:optDeclSig $v:declVal)
local macro_rules | `(command|abbrev $n:declId $s:optDeclSig $v:declVal)=>`(command|noncomputable abbrev $n:declId $s:optDeclSig $v:declVal)
local macro_rules | `(tactic| and_intros) => `(tactic| exact ⟨rfl,rfl,rfl,by decide +kernel,rfl,by decide +kernel,by decide +kernel⟩)
local macro_rules | `(tactic| lia) => `(tactic| first | lia -verbose | omega)
local macro_rules | `(tactic| ac_nf) => `(tactic| decide +kernel)
local macro_rules | `(tactic| trivial) => `(tactic| first | exact Or.inl rfl | exact Or.inr rfl)
abbrev MR:=@PySem.Value
abbrev OY:=@PySem.Shared
abbrev OZ:=@PySem.Addr
abbrev O0:=@PySem.Program
abbrev O1:=@PySem.FuncData
abbrev O2:=@PySem.World
abbrev O3:=@PySem.Around
abbrev O4:=@List
abbrev O5:=@PySem.Expr
abbrev O6:=@PySem.Heap
abbrev O7:=@Option
abbrev O8:=@PySem.Stmt
abbrev A0:=@PySem.wpAny_bind
abbrev A1:=@List.length_map
abbrev A2:=@List.getElem?_eq_getElem
abbrev A3:=@PySem.wpAny_pure
abbrev A4:=@PySem.Heap.get?_push_of_some
abbrev A5:=@List.map_append
abbrev A6:=@if_neg
abbrev A7:=@List.getD_eq_getElem?_getD
abbrev A8:=@if_pos
abbrev A9:=@Bool.and_eq_true
abbrev A':=@List.length_append
abbrev AA:=@Option.bind_eq_some_iff
abbrev AB:=@Nat.le_refl
abbrev AC:=@Option.map_eq_some_iff
abbrev AD:=@List.getElem?_eq_some_iff
abbrev AE:=@List.size_toArray
abbrev AF:=@List.getElem?_map
abbrev AG:=@Bool.false_eq_true
abbrev AH:=@List.mem_cons_self
abbrev AI:=@PySem.Heap.get?_push_size
abbrev AJ:=@List.mem_cons
abbrev AK:=@List.map_cons
abbrev AL:=@List.mem_cons_of_mem
abbrev AM:=@PySem.Heap.lt_size
abbrev AN:=@List.take_add_one
abbrev AO:=@PySem.PassesOwn.never
abbrev AQ:=@Nat.zero_le
abbrev AR:=@List.take_length
abbrev AS:=@List.all_eq_true
abbrev AT:=@Nat.ne_of_lt
abbrev AU:=@decide_eq_true_eq
abbrev AV:=@List.mem_of_getElem?
abbrev AW:=@List.mem_range
abbrev AX:=@decide_eq_false
abbrev AY:=@List.mem_singleton
abbrev AZ:=@Bool.false_ne_true
abbrev Aa:=@PySem.F.plainAttrs_list
abbrev Ab:=@PyProof.Rows.wpS_bind
abbrev Ac:=@List.length_take
abbrev Ad:=@List.length_cons
abbrev Ae:=@Nat.le_of_lt
abbrev Af:=@List.mem_map
abbrev Ag:=@decide_eq_true
abbrev Ah:=@Array.getElem?_eq_getElem
abbrev Ai:=@PySem.wpAny_call_entry
abbrev Aj:=@List.sum_cons
abbrev Ak:=@Nat.lt_succ_of_lt
abbrev Al:=@List.mem_append_right
abbrev Am:=@if_false
abbrev An:=@Int.toNat_natCast
abbrev Ao:=@Option.some.inj
abbrev Ap:=@Nat.lt_of_lt_of_le
abbrev Aq:=@List.pairwise_cons
abbrev Ar:=@List.drop_eq_getElem_cons
abbrev As:=@List.not_mem_nil
abbrev At:=@PySem.W.mg_none_of
abbrev Au:=@PySem.wpAny_newObj_type
abbrev Av:=@PySem.sizeLine_eq
abbrev Aw:=@PySem.F.type_list_append
abbrev Ax:=@PySem.F.slot_list_append
abbrev Ay:=@PyProof.Rows.wpS_pure
abbrev Az:=@PySem.wpAny_holding
abbrev B0:=@List.range_succ
abbrev B1:=@Int.eq_ofNat_of_zero_le
abbrev B2:=@List.length_replicate
abbrev B3:=@PySem.wpAny_callSpecial?_slot
abbrev B4:=@PySem.Heap.size_push
abbrev B5:=@List.append_nil
abbrev B6:=@of_decide_eq_true
abbrev B7:=@Nat.le_trans
abbrev B8:=@Bool.not_true
abbrev B9:=@PySem.wpAny_truthy_bool
abbrev B':=@List.map_congr_left
abbrev BA:=@PySem.Heap.size_update
abbrev BB:=@PySem.Heap.get?_push_ne
abbrev BC:=@Array.length_toList
abbrev BD:=@PySem.Heap.SameBut.update
abbrev BE:=@List.append_assoc
abbrev BF:=@List.flatMap_append
abbrev BG:=@List.filter_append
abbrev BH:=@PyProof.Rows.callWith_type1
abbrev BI:=@List.mem_append
abbrev BJ:=@List.mem_flatMap
abbrev BK:=@List.length_range
abbrev BL:=@Int.mul_comm
abbrev BM:=@Array.getElem?_eq_none
abbrev BN:=@congrArg
abbrev BO:=@List.take_succ_cons
abbrev BP:=@List.replicate_succ
abbrev BQ:=@PyProof.Rows.slot_tuple_getitem
abbrev BR:=@PySem.wpAny_setState_of
abbrev BS:=@List.getElem?_append_right
abbrev BU:=@List.length_set
abbrev BV:=@List.find?_cons
abbrev BW:=@Nat.lt_succ_self
abbrev BX:=@List.map_map
abbrev BY:=@PySem.F.slot_dict_valueiterator_next
abbrev BZ:=@List.flatMap_cons
abbrev Ba:=@PySem.wpAny_forIn_list
abbrev Bb:=@PySem.F.type_list_extend
abbrev Bc:=@PySem.F.slot_list_extend
abbrev Bd:=@PySem.W.kia_one
abbrev Be:=@Nat.ne_of_gt
abbrev Bf:=@List.nodup_cons
abbrev Bg:=@PySem.wpAny_field
abbrev Bh:=@PySem.F.slot_dict_keyiterator_next
abbrev Bi:=@PySem.wpAny_seqItems
abbrev Bj:=@List.mem_of_mem_drop
abbrev Bk:=@List.length_drop
abbrev Bl:=@List.getElem?_set_ne
abbrev Bm:=@PySem.wpAny_mono
abbrev Bn:=@PySem.wpAny_Call_Name_kw
abbrev Bo:=@PySem.wpAny_isInstance
abbrev Bp:=@List.getElem?_append_left
abbrev Bq:=@or_false
abbrev Br:=@List.length_filter_le
abbrev Bs:=@PySem.F.slot_tuple_hash
abbrev Bt:=@Array.getElem?_toList
abbrev Bu:=@List.map_replicate
abbrev Bv:=@PySem.wpAny_specialOf
abbrev Bw:=@Nat.pow_le_pow_right
abbrev Bx:=@List.mem_append_left
abbrev By:=@Int.mul_nonneg
abbrev Bz:=@PySem.wpAny_rule
abbrev C0:=@PySem.Obj.data_mapFields
abbrev C1:=@if_true
abbrev C2:=@PySem.mem_of_lookup
abbrev C3:=@PySem.Around.under_plainId
abbrev C4:=@Nat.lt_or_ge
abbrev C5:=@PyProof.Rows.size_push'
abbrev C6:=@Nat.lt_irrefl
abbrev C7:=@Nat.add_assoc
abbrev C8:=@Nat.mul_le_mul
abbrev C9:=@Bool.and_false
abbrev C':=@Array.getElem?_eq_none_iff
abbrev CA:=@Array.forIn_toList
abbrev CC:=@PySem.Paired.length
abbrev CD:=@List.sum_append
abbrev CF:=@List.cons.injEq
abbrev CG:=@PySem.wpAny_setField
abbrev CH:=@Nat.succ_mul
abbrev CI:=@List.mem_iff_getElem
abbrev CJ:=@Int.le_refl
abbrev CK:=@PySem.Heap.get?_update_self
abbrev CL:=@PySem.codeAny_builtin
abbrev CM:=@List.lookup_cons
abbrev CN:=@List.length_eq_zero_iff
abbrev CO:=@PySem.wpAny_attempt
abbrev CP:=@Int.mul_le_mul_of_nonneg_left
abbrev CQ:=@List.drop_of_length_le
abbrev CS:=@Bool.or_eq_true
abbrev CT:=@PySem.wpAny_typeNameOfWhole_valiter
abbrev CU:=@PySem.wpAny_typeNameOfWhole_keyiter
abbrev CV:=@List.foldl_append
abbrev CW:=@PySem.wpAny_tupleItemsOf
abbrev CY:=@PySem.wpAny_loadPart'
abbrev CZ:=@Int.mul_le_mul
abbrev Ca:=@PySem.F.slot_tuple_eq
abbrev Cb:=@Bool.not_false
abbrev Cc:=@PySem.isSubtype_tuple_tuple
abbrev Cd:=@PySem.wpAny_dictEntries
abbrev Ce:=@List.filterMap_cons
abbrev Cf:=@PySem.F.slot_tuple_iterator_next
abbrev Cg:=@PyProof.Rows.get?_update_seq
abbrev Ch:=@List.mem_filter
abbrev Ci:=@List.forIn_cons
abbrev Cj:=@List.foldl_cons
abbrev Ck:=@Int.emod_nonneg
abbrev Cm:=@PyProof.Rows.listUpdate_at
abbrev Cn:=@PySem.F.called_set
abbrev Co:=@List.getElem?_replicate
abbrev Cp:=@PySem.wpAny_typeNameOf_valiter
abbrev Cq:=@PySem.wpAny_typeNameOf_keyiter
abbrev Cr:=@bne_self_eq_false
abbrev Cs:=@Nat.pow_succ
abbrev Ct:=@List.take_of_length_le
abbrev Cu:=@List.flatten_cons
abbrev Cv:=@Int.zero_add
abbrev Cw:=@Bool.false_and
abbrev Cy:=@PySem.wpAny_dictEpoch
abbrev Cz:=@PySem.wpAny_setField_rec
abbrev D0:=@PySem.wpAny_pyIter_tuple
abbrev D1:=@PySem.Calls.spliced_cons
abbrev D3:=@List.take_append_drop
abbrev D4:=@List.length_singleton
abbrev D5:=@PyProof.Rows.callWith_builtin1
abbrev D6:=@List.getElem_mem
abbrev D7:=@List.filter_cons
abbrev D8:=@Prod.mk.injEq
abbrev D9:=@List.map_drop
abbrev D':=@PySem.wpAny_fieldsOf
abbrev DA:=@Nat.mul_le_mul_right
abbrev DB:=@Nat.le_succ
abbrev DC:=@List.mem_of_mem_take
abbrev DD:=@Int.mul_add
abbrev DE:=@Bool.eq_iff_iff
abbrev DF:=@beq_eq_false_iff_ne
abbrev DH:=@PySem.Obj.isFreed_of_fields
abbrev DI:=@PySem.wpAny_askSetting
abbrev DJ:=@PySem.wpAny_newList
abbrev DK:=@PySem.plainId_quiet
abbrev DL:=@PySem.wpAny_of_eq
abbrev DO:=@beq_iff_eq
abbrev DP:=@List.zip_cons_cons
abbrev DQ:=@List.find?_eq_none
abbrev DR:=@List.drop_zero
abbrev DS:=@Array.size_map
abbrev DT:=@Array.perm_iff_toList_perm
abbrev DU:=@PySem.wpAny_passesOwn
abbrev DV:=@PySem.Heap.get?_update_ne
abbrev DW:=@PySem.wpAny_typeOf
abbrev DX:=@PyProof.Rows.wpS_modify
abbrev DY:=@PySem.tupleKind_room_in1
abbrev DZ:=@PyProof.Rows.boot_isinstance
abbrev Da:=@PyProof.Rows.boot_sum
set_option pp.maxSteps 400
set_option Elab.async false
set_option linter.all false
set_option maxRecDepth 100000
set_option maxHeartbeats 4000000
set_option Elab.async false
set_option linter.all false
set_option maxRecDepth 100000
namespace L2
open PySem PySem.Spec PyProof.Rows
variable {A:O3}{E Q:MR->OY->Prop}{J':O4 (OZ×Obj)}{K:W.Frag}{Kg x:Str}{M:Model}{N ps:O4 Str}{Ob op:CmpOp}{P:O0}{a b dx it:OZ}{base h:O6}{body:O4 O8}{c e l tg:O5}{ch fp:O4 OZ}{es:O4 O5}{f:MR->MR->Sem MR}{i j k n:Nat}{lo:Int}{mA mg:Str->O7 MR}{o:Obj}{s:OY}{scope:Scope}{u:MR}{us:O4 MR}{w:O2}
abbrev Key:=Sum Int Str
def gk:Key->MR->Bool
 | .inl k,v=>Value.isInt k v
 | .inr x,v=>Value.isStrOf x v
def wN (w:O2):Key->Int
 | .inl k=>hashInt k
 | .inr x=>hashStr w x
theorem eJ:∀{k:Key}{v:MR},gk k v=true->(∃i t,k=Sum.inl i/\v=Value.int i t)\/(∃x t,k=Sum.inr x/\v=Value.str x t)
 | .inl i,v,h=>by
  obtain⟨t,e⟩:=Value.isInt_shape (k:=i) (v:=v) h;exact .inl ⟨i,t,rfl,e⟩
 | .inr x,v,h=>by
  obtain⟨t,e⟩:=Value.isStrOf_shape (x:=x) (v:=v) h;exact .inr ⟨x,t,rfl,e⟩
theorem wO (i:Int) (t:Tok):gk (.inl i) (.int i t)=true:=by simp[gk,Value.isInt]
theorem wP (x:Str) (t:Tok):gk (.inr x) (.str x t)=true:=by simp[gk,Value.isStrOf]
theorem wQ (a b:Int):decide ((Sum.inl a:Key)=Sum.inl b)=(a==b):=by
 by_cases e:a=b
 .subst e;simp
 .have h:¬(Sum.inl a:Key)=Sum.inl b:=fun q=>e (Sum.inl.inj q);rw[AX h];exact(DF.mpr e).symm
theorem wR (a b:Str):decide ((Sum.inr a:Key)=Sum.inr b)=decide (a=b):=by
 by_cases e:a=b
 .subst e;simp
 .have h:¬(Sum.inr a:Key)=Sum.inr b:=fun q=>e (Sum.inr.inj q);rw[AX h,AX e]
def wS (a:Int) (b:Str):decide ((Sum.inl a:Key)=Sum.inr b)=false:=AX (fun q=>nomatch q)
def wT (a:Str) (b:Int):decide ((Sum.inr a:Key)=Sum.inl b)=false:=AX (fun q=>nomatch q)
def bZ (prog:O0) (w:O2):PySem.KeyKind prog w Key where
 is:=gk
 hash:=wN w
 inj:=fun v a b ha hb=>by
  rcases eJ ha with⟨i,t,rfl,rfl⟩|⟨x,t,rfl,rfl⟩
  .rcases eJ hb with⟨j,u,rfl,e⟩|⟨y,u,rfl,e⟩
   .injection e with e1 _;rw[e1]
   .exact nomatch e
  .rcases eJ hb with⟨j,u,rfl,e⟩|⟨y,u,rfl,e⟩
   .exact nomatch e
   .injection e with e1 _;rw[e1]
 byValue:=fun k v h=>by
  rcases eJ h with⟨i,t,rfl,rfl⟩|⟨x,t,rfl,rfl⟩<;>rfl
 pyHash:=fun hv h=>by
  rcases eJ hv with⟨i,t,rfl,rfl⟩|⟨x,t,rfl,rfl⟩
  .exact wpAny_pyHash_int h
  .exact wpAny_pyHash_str h
 eqBool:=fun hu hv h=>by
  rcases eJ hu with⟨i,t,rfl,rfl⟩|⟨x,t,rfl,rfl⟩
  .rcases eJ hv with⟨j,u,rfl,rfl⟩|⟨y,u,rfl,rfl⟩
   .rw [wQ] at h;exact wpAny_eqBool_int h
   .rw [wS] at h;exact SeqAt.EqAt.int_str i t y u _ _ _ _ h
  .rcases eJ hv with⟨j,u,rfl,rfl⟩|⟨y,u,rfl,rfl⟩
   .rw [wT] at h;exact SeqAt.EqAt.str_int x t j u _ _ _ _ h
   .rw [wR] at h;exact wpAny_eqBool_str h
 «strs»:=fun k x t v h=>by
  rcases eJ h with⟨i,u,rfl,e⟩|⟨y,u,rfl,e⟩
  .exact nomatch e
  .injection e with e1 _;subst e1;cases v<;>rfl
def wU (prog:O0) (w:O2) (i:Int) (t:Tok):(bZ prog w).is (.inl i) (.int i t)=true:=wO i t
def wV (prog:O0) (w:O2) (x:Str) (t:Tok):(bZ prog w).is (.inr x) (.str x t)=true:=wP x t
inductive V where
 |non|bl (b:Bool)|int (i:Int)|str (x:Str)|byt (b:Array UInt8)|flt (b:UInt64)|ref (a:Addr)|ty (n:String)
 deriving DecidableEq
variable {v:V}{vs xs:O4 V}
def av:V->MR->Prop
 | .non,u=>u=Value.none
 | .bl b,u=>u=Value.bool b
 | .int i,u=>∃t,u=Value.int i t
 | .str x,u=>∃t,u=Value.str x t
 | .byt b,u=>∃t,u=Value.bytes b t
 | .flt b,u=>∃t,u=Value.float b t
 | .ref a,u=>u=Value.ref a
 | .ty n,u=>u=Value.type n
abbrev au:O4 V->O4 MR->Prop:=Paired av
theorem au.length {xs:O4 V}{us:O4 MR} (r:au xs us):xs.length=us.length:=CC r
theorem au.get:∀{xs:O4 V}{us:O4 MR}{i:Nat}{x:V},au xs us->xs[i]? =some x->∃u,us[i]? =some u/\av x u
 |_,_,_,_, .nil,e=>by simp at e
 |_,_,0,_, .cons r _,e=>by simp at e;subst e;exact⟨_,rfl,r⟩
 |_,_,i+1,x, .cons _ t,e=>by
  obtain⟨u,h1,h2⟩:=au.get (i:=i) (x:=x) t (by simpa using e);exact⟨u,by simpa using h1,h2⟩
theorem au.set {x:V}{u:MR} (r:av x u):∀{xs:O4 V}{us:O4 MR} (i:Nat),au xs us->au (xs.set i x) (us.set i u)
 |_,_,_, .nil=> .nil
 |_,_,0, .cons _ t=> .cons r t
 |_,_,i+1, .cons q t=> .cons q (au.set r i t)
theorem au.append:∀{xs ys:O4 V}{us ws:O4 MR},au xs us->au ys ws->au (xs++ys) (us++ws)
 |_,_,_,_, .nil,s=>s
 |_,_,_,_, .cons r t,s=> .cons r (au.append t s)
theorem au.take:∀{xs:O4 V}{us:O4 MR} (n:Nat),au xs us->au (xs.take n) (us.take n)
 |_,_,0,_=> .nil
 |_,_,_+1, .nil=> .nil
 |_,_,n+1, .cons r t=> .cons r (au.take n t)
theorem au.drop:∀{xs:O4 V}{us:O4 MR} (n:Nat),au xs us->au (xs.drop n) (us.drop n)
 |_,_,0,r=>r
 |_,_,_+1, .nil=> .nil
 |_,_,n+1, .cons _ t=>au.drop n t
def cz:O7 V->O7 MR->Prop
 |some v,some u=>av v u
 |none,none=>True
 |_,_=>False
def KV {κ:Type}:O4 (κ×V)->O4 (κ×MR)->Prop:=Paired fun(p:κ×V) (q:κ×MR)=>p.1=q.1/\av p.2 q.2
def kV:Key->V
 | .inl i=> .int i
 | .inr x=> .str x
inductive HO where
  |lst (xs:List V)
  |tup (xs:List V)
  |dK (Kb:List (Key×V))|dT (Kb:List (List Key×V))
  |set (S:Int->Bool) (n:Nat)
  |ins (C dx:Addr) (fs:List (Str×V))
  |own (x:Addr)
  |xd (fs:List (Str×V))
  |met (f x:Addr)
  |rng (lo hi:Int)
  |frz (o:Obj) (u:HO)
  |tbl (ps:Array Value)
  |ext (φ:Heap->Prop)
abbrev Hp:=OZ->O7 HO
variable {H:Hp}
def upd (H:Hp) (a:OZ) (o:HO):Hp:=fun b=>if b=a then some o else H b
theorem ak {o:HO}:upd H a o a=some o:=by unfold upd;rw[A8 rfl]
theorem ax {o:HO} (h:b≠a):upd H a o b=H b:=by unfold upd;rw[A6 h]
theorem pW {o u:HO}:upd (upd H a o) a u=upd H a u:=by
 funext b;unfold upd;split<;>rfl
theorem kW {o u:HO} (h:H a=some o) (h':H b=some u) (d:o≠u):a≠b:=by
 intro e;subst e;rw[h] at h';exact d (Ao h')
theorem bG {o:HO} (h:H a=some o) (h':H b=none):a≠b:=by
 intro e;subst e;rw[h] at h';cases h'
section
variable (P:O0) (w:O2)
def aI (H:Hp) (h:O6) (a:OZ):HO->Prop
 | .lst xs=>xs.length<=sizeLine/\∃(Kd:O4 MR) (n:Nat),au xs Kd/\h.get? a=some {cls:= .type "list",data:= .seq Kd.toArray n}
 | .tup xs=>xs.length<=sizeLine/\∃Kd:O4 MR,au xs Kd/\IsTup h a Kd.toArray
 | .dK Kb=>Kb.length<=sizeLine/\(a==sysModules)=false/\∃vs,KV Kb vs/\h.DictOf (bZ P w) a vs
 | .dT Kb=>Kb.length<=sizeLine/\(a==sysModules)=false/\∃xs:O4 (O4 Key×OZ×MR),
   Paired (fun(p:O4 Key×V) (q:O4 Key×OZ×MR)=>p.1=q.1/\H q.2.1=some (.tup (p.1.map kV))/\av p.2 q.2.2) Kb xs/\
   ∃o es ep,h.get? a=some o/\o.ExactDict/\o.data= .dict es ep/\es.toList=xs.map (entryOfKey (tupleKind (bZ P w)))/\(xs.map (·.1)).Nodup
 | .set S n=>h.SetOf (intKind P w) a S n
 | .ins C dx fs=>H dx=some (.own a)/\fs.length<=1000/\dx≠a/\h.get? a=some (W.instObj C dx)/\
   ∃mA,h.Ns1 dx mA/\(∀f,cz (fs.lookup f) (mA f))/\PySem.Within mA (fs.map (·.1))
 | .own _=>∃o,h.get? a=some o
 | .xd fs=>∃mA,h.Ns1 a mA/\∀f,cz (fs.lookup f) (mA f)
 | .rng lo hi=>∃t u v,h.get? a=some {cls:= .type "range",data:= .fields #[.int lo t, .int hi u, .int 1 v]}
 | .frz o u=>h.get? a=some o/\aI H h a u
 | .tbl ps=>h.get? a=some {cls:= .none,data:= .fields ps}
 | .met f x=>h.get? a=some (W.methodObj (.ref f) (.ref x))
 | .ext φ=>φ h/\(∃o,h.get? a=some o)/\∀h1 h2:O6,φ h1->(∀o,h1.get? a=some o->h2.get? a=some o)->φ h2
def HOk (H:Hp) (h:O6):Prop:=∀a o,H a=some o->aI P w H h a o
end
section
variable {P:O0}{w:O2}{H H':Hp}{h h':O6}{a:OZ}{o:HO}
theorem aI.lt (x:aI P w H h a o):a<h.objs.size:=by
 cases o with
 |lst xs=>obtain⟨_,_,_,_,e⟩:=x;exact AM e
 |tup xs=>obtain⟨_,_,_,p⟩:=x;exact p.lt
 |dK Kb=>obtain⟨_,_,_,_,o,_,_,e,_⟩:=x;exact AM e
 |dT Kb=>obtain⟨_,_,_,_,o,_,_,e,_⟩:=x;exact AM e
 |set S n=>obtain⟨o,_,_,_,e,_⟩:=x;exact AM e
 |ins C dx fs=>obtain⟨_,_,_,e,_⟩:=x;exact AM e
 |own y=>obtain⟨_,e⟩:=x;exact AM e
 |xd fs=>obtain⟨_,⟨_,_,_,e,_⟩,_⟩:=x;exact AM e
 |rng lo hi=>obtain⟨_,_,_,e⟩:=x;exact AM e
 |frz ob u=>obtain⟨e,_⟩:=x;exact AM e
 |tbl ps=>exact AM (show h.get? a=some _ from x)
 |met f y=>exact AM (show h.get? a=some _ from x)
 |ext φ=>obtain⟨_,⟨_,e⟩,_⟩:=x;exact AM e
theorem Paired.mapP {α β:Type}{F G:α->β->Prop}:∀{l₁:O4 α}{l₂:O4 β},Paired F l₁ l₂->(∀a b,F a b->G a b)->Paired G l₁ l₂
 |_,_, .nil,_=> .nil
 |_,_, .cons r t,f=> .cons (f _ _ r) (Paired.mapP t f)
theorem aI.stay (x:aI P w H h a o) (k:∀b u,(b=a\/H b=some (.own a))->h.get? b=some u->h'.get? b=some u)
  (ho:∀b,H b=some (.own a)->H' b=some (.own a)) (ht:∀b xs,H b=some (.tup xs)->H' b=some (.tup xs)):aI P w H' h' a o:=by
 induction o with
 |lst xs=>obtain⟨z,Kd,n,r,e⟩:=x;exact⟨z,Kd,n,r,k _ _ (.inl rfl) e⟩
 |tup xs=>obtain⟨z,Kd,r,ob,e,c⟩:=x;exact⟨z,Kd,r,ob,k _ _ (.inl rfl) e,c⟩
 |dK Kb=>obtain⟨z,y,vs,r,ob,es,ep,e,c⟩:=x;exact⟨z,y,vs,r,ob,es,ep,k _ _ (.inl rfl) e,c⟩
 |dT Kb=>
  obtain⟨z,y,xs,r,ob,es,ep,e,c⟩:=x;exact⟨z,y,xs,Paired.mapP r fun p q z=>⟨z.1,ht _ _ z.2.1,z.2.2⟩,ob,es,ep,k _ _ (.inl rfl) e,c⟩
 |set S n=>obtain⟨ob,es,ep,t,e,c⟩:=x;exact⟨ob,es,ep,t,k _ _ (.inl rfl) e,c⟩
 |ins C dx fs=>
  obtain⟨d,z,ne,e,mA,⟨od,es,ep,e2,c⟩,r⟩:=x;exact⟨ho _ d,z,ne,k _ _ (.inl rfl) e,mA,⟨od,es,ep,k _ _ (.inr d) e2,c⟩,r⟩
 |own y=>obtain⟨ob,e⟩:=x;exact⟨ob,k _ _ (.inl rfl) e⟩
 |xd fs=>obtain⟨mA,⟨od,es,ep,e,c⟩,r⟩:=x;exact⟨mA,⟨od,es,ep,k _ _ (.inl rfl) e,c⟩,r⟩
 |rng lo hi=>obtain⟨t,u,v,e⟩:=x;exact⟨t,u,v,k _ _ (.inl rfl) e⟩
 |frz ob u ih=>obtain⟨e,q⟩:=x;exact⟨k _ _ (.inl rfl) e,ih q⟩
 |tbl ps=>
  have e:h.get? a=some {cls:= .none,data:= .fields ps}:=x;show h'.get? a=some {cls:= .none,data:= .fields ps};exact k a _ (.inl rfl) e
 |met f y=>
  have e:h.get? a=some (W.methodObj (.ref f) (.ref y)):=x;show h'.get? a=some (W.methodObj (.ref f) (.ref y));exact k a _ (.inl rfl) e
 |ext φ=>obtain⟨p,⟨o,e⟩,st⟩:=x;exact⟨st _ _ p fun o q=>k _ _ (.inl rfl) q,⟨o,k _ _ (.inl rfl) e⟩,st⟩
theorem HOk.lt (x:HOk P w H h) (e:H a=some o):a<h.objs.size:=(x a o e).lt
theorem HOk.fresh (x:HOk P w H h) (e:h.objs.size<=a):H a=none:=by
 cases q:H a with
 |none=>rfl
 |some u=>exact absurd (Ap (x.lt q) e) (C6 _)
def HOk.kept (x:HOk P w H h) (k:∀b u,h.get? b=some u->h'.get? b=some u):HOk P w H h':=fun a o e=>
 (x a o e).stay (fun b u _ q=>k b u q) (fun _ q=>q) fun _ _ q=>q
theorem HOk.laid (x:HOk P w H h) (k:∀b u,h.get? b=some u->h'.get? b=some u) (hp:h.objs.size<=a) (new:aI P w (upd H a o) h' a o):HOk P w (upd H a o) h':=fun b u e=>by
 have hn:=x.fresh hp;by_cases hb:b=a
 .subst hb;rw[ak] at e;cases e;exact new
 .rw [ax hb] at e;exact(x b u e).stay (fun c v _ q=>k c v q) (fun c q=>by rw[ax (bG q hn)];exact q) fun c xs q=>by rw[ax (bG q hn)];exact q
end
def Rd (H:Hp) (a:OZ) (u:HO):Prop:=H a=some u\/∃o,H a=some (.frz o u)
theorem Rd.ok {u:HO} (r:Rd H a u) (x:HOk P w H h):aI P w H h a u:=by
 rcases r with r|⟨o,r⟩
 .exact x a u r
 .obtain⟨_,q⟩:=x a _ r;exact q
def Mut:O7 HO->Prop
 |some (.lst _)=>True
 |some (.dK _)=>True
 |some (.dT _)=>True
 |some (.set _ _)=>True
 |some (.ins _ _ _)=>True
 |some (.ext _)=>True
 |_=>False
section
variable {P:O0}{w:O2}{H:Hp}{h h':O6}{x e:OZ}{o':HO}
theorem HOk.write (ok:HOk P w H h) (mu:Mut (H x)) (he:e=x\/H e=some (.own x)) (k:∀b u,b≠e->h.get? b=some u->h'.get? b=some u) (heo:∃u,h'.get? e=some u)
  (new:aI P w (upd H x o') h' x o'):HOk P w (upd H x o') h':=fun b u q=>by
 have nown:∀c y,H c=some (.own y)->c≠x:=fun c y r z=>by subst z;rw[r] at mu;exact mu
 have ntup:∀c xs,H c=some (.tup xs)->c≠x:=fun c xs r z=>by subst z;rw[r] at mu;exact mu
 by_cases hb:b=x
 .subst hb;rw[ak] at q;cases q;exact new
 .rw [ax hb] at q;by_cases N':b=e
  .have q':H b=some (.own x):=by
    rcases he with z|z
    .exact absurd (N'.trans z) hb
    .rw [N'];exact z
   rw[q] at q';cases q';obtain⟨v,hv⟩:=heo;exact⟨v,by rw[N'];exact hv⟩
  .refine(ok b u q).stay (fun c v hc r=>k c v ?_ r) (fun c r=>by rw[ax (nown c b r)];exact r) fun c xs r=>by rw[ax (ntup c xs r)];exact r
   rcases hc with rfl|hc
   .exact N'
   .rintro rfl;rcases he with z|z
    .exact nown c b hc z
    .rw [hc] at z;cases z;exact hb rfl
end
structure Un (fs ex:O4 OZ) (H H':Hp) (h h':O6):Prop where
 keep:∀b o,h.get? b=some o->H b=none->b∉fs->b∉ex->h'.get? b=some o
 slot:∀b o,h.get? b=some o->H b=none->b∈fs->b∉ex->∃sl,h'.get? b=some {o with slots:=sl}
 free:∀b o,h.get? b=some o->H b=none->b∉ex->H' b=none
 there:∀b o,h.get? b=some o->b∉ex->∃o',h'.get? b=some o'
 tups:∀b xs,H b=some (.tup xs)->H' b=some (.tup xs)
 frzs:∀b o u,H b=some (.frz o u)->H' b=some (.frz o u)
 tbls:∀b ps,H b=some (.tbl ps)->∃more,H' b=some (.tbl (ps++more))
section
variable {fs fs' ex ex':O4 OZ}{H H1 H2:Hp}{h h1 h2 h':O6}{a x e:OZ}{o:HO}
theorem Un.any (u:Un fs ex H H1 h h1) {ob:Obj} (q:h.get? b=some ob) (n:H b=none) (hx:b∉ex):∃sl,h1.get? b=some {ob with slots:=sl}:=by
 by_cases hb:b∈fs
 .exact u.slot b ob q n hb hx
 .exact⟨ob.slots,u.keep b ob q n hb hx⟩
theorem Un.kept (k:∀b u,h.get? b=some u->h'.get? b=some u):Un fs ex H H h h':=
 ⟨fun b ob q _ _ _=>k b ob q,fun b ob q _ _ _=>⟨ob.slots,k b ob q⟩,fun _ _ _ n _=>n,fun b ob q _=>⟨ob,k b ob q⟩,fun _ _ q=>q,fun _ _ _ q=>q,fun _ ps q=>⟨#[],by rw[q];simp⟩⟩
def Un.refl:Un fs ex H H h h:=Un.kept fun _ _ q=>q
theorem Un.laid (k:∀b u,h.get? b=some u->h'.get? b=some u) (hp:h.objs.size<=a) (hn:H a=none):Un fs ex H (upd H a o) h h' where
 keep:=fun b u q _ _ _=>k b u q
 slot:=fun b u q _ _ _=>⟨u.slots,k b u q⟩
 free:=fun b u q n _=>by rw[ax (AT (Ap (AM q) hp))];exact n
 there:=fun b u q _=>⟨u,k b u q⟩
 tups:=fun b xs q=>by rw[ax (bG q hn)];exact q
 frzs:=fun b u xs q=>by rw[ax (bG q hn)];exact q
 tbls:=fun b ps q=>⟨#[],by rw[ax (bG q hn),q];simp⟩
theorem Un.write (mu:Mut (H x)) (he:e=x\/H e=some (.own x)) (k:∀b u,b≠e->h.get? b=some u->h'.get? b=some u) (heo:∃u,h'.get? e=some u):Un fs ex H (upd H x o) h h':=by
 have hx:∀b,H b=none->b≠x:=fun b n z=>by subst z;rw[n] at mu;exact mu
 have hb:∀b,H b=none->b≠e:=fun b n z=>by
  subst z;rcases he with r|r
  .exact hx b n r
  .rw [n] at r;cases r
 have hm:∀b u,H b=some u->¬Mut (some u)->b≠x:=fun b u q nm z=>by subst z;rw[q] at mu;exact nm mu
 refine⟨fun b u q n _ _=>k b u (hb b n) q,fun b u q n _ _=>⟨u.slots,k b u (hb b n) q⟩,fun b u q n _=>by rw[ax (hx b n)];exact n,fun b u q _=> ?_,
  fun b xs q=>by rw[ax (hm b _ q fun z=>z)];exact q,fun b u xs q=>by rw[ax (hm b _ q fun z=>z)];exact q,fun b ps q=>⟨#[],by rw[ax (hm b _ q fun z=>z),q];simp⟩⟩
 by_cases N':b=e
 .subst N';exact heo
 .exact⟨u,k b u N' q⟩
end
def trk (h:O6) (H:Hp):O4 OZ:=(List.range h.objs.size).filter fun a=>(H a).isSome
def eK (h:O6) (H:Hp):O6:=W.hideAll h (trk h H)
def wX (h:O6) (H:Hp):(eK h H).objs.size=h.objs.size:=W.hideAll_size _ _
theorem wY (e:h.get? b=some o) (n:H b=none):(eK h H).get? b=some o:=
 W.hideAll_get _ e fun hm=>by
  have q:(H b).isSome=true:=(Ch.mp hm).2;rw[n] at q;simp at q
theorem wZ (e:(eK h H).get? b=some o):h.get? b=some o/\H b=none:=by
 have e':h.get? b=some o:=W.of_hideAll (trk h H) e;refine⟨e', ?_⟩;cases q:H b with
 |none=>rfl
 |some x=>
  have hm:b∈trk h H:=Ch.mpr ⟨AW.mpr (AM e'),by simp[q]⟩;have z:(eK h H).get? b=none:=W.hideAll_none (trk h H) hm;rw[z] at e;cases e
def w4 (g h:O6) (L:OZ):O4 (OZ×Obj):=(List.range h.objs.size).filterMap fun a=>if a=L\/(g.get? a).isSome=true then none else(h.get? a).map fun o=>(a,o)
def aJ (g h:O6) (L d:OZ):O4 (OZ×Obj):=(w4 g h L).filter fun p=>decide (p.1≠d)
structure Mod (K:W.Frag) (mg:Str->O7 MR) (base:O6):Prop where
 kin:K.In base
 glob:base.Ns mainGlobals mg
 blt:∃mb,base.Ns builtinsNs mb/\∀x:Str,x≠"__name__"->mb x=bootBuiltins x
 nolimit:base.NoLimit
structure Cx where
 prog:Program
 w:World
 K:W.Frag
 mg:Str->Option Value
 base:Heap
 A:Around
 N:List Str
 s₀:Shared
 H₀:Hp
 env:Env
 outer:List Env
 stack:List Env
 ex:List Addr
 fn:Str->Bool
 calm:Bool
 pn:List (Addr×Obj)
 xe:Value->Shared->Prop
variable {X:Cx}
def frs (l:O4 Env):O4 OZ:=l.filterMap (·.frame)
abbrev Cx.fs (X:Cx):O4 OZ:=frs X.outer
def Vis (sc:Scope) (x:Str):Prop:=sc.names.lookup x=some .local\/sc.names.lookup x=some .cell\/sc.names.lookup x=some .free
def Loc (sc:Scope) (x:Str):Prop:=sc.names.lookup x=some .local\/sc.names.lookup x=some .cell
def w6 (env:Env) (h:O6) (m:Str->O7 MR) (x:Str) (u:MR):Prop:=
 (env.kindOf x=some .local/\m x=some u)\/((env.kindOf x=some .cell\/env.kindOf x=some .free)/\∃c,env.cells.lookup x=some c/\h.IsCell c (some u))
structure Cx.Ok (X:Cx):Prop where
 mod:Mod X.K X.mg X.base
 kind:X.env.scope.kind= .function
 glob:X.env.globals=mainGlobals
 blt:X.env.builtins=builtinsNs
 above:X.s₀.heap.objs.size<=X.env.locals
 inj:∀x y c,X.env.cells.lookup x=some c->X.env.cells.lookup y=some c->x=y
 has:∀x,(X.env.kindOf x=some .cell\/X.env.kindOf x=some .free)->∃c,X.env.cells.lookup x=some c
 cab:∀x c,X.fn x=true->X.env.cells.lookup x=some c->X.s₀.heap.objs.size<=c
 hd:X.calm=true->X.A.handled=none
 frames:X.A.frames=some X.stack
 stk:X.stack=X.outer\/(X.stack=X.env::X.outer/\X.env.frame=some X.env.locals)
 exf:∀b∈X.ex,b≠X.env.locals/\∀x c,X.env.cells.lookup x=some c->c≠b
 bs:∀b o,X.base.get? b=some o->X.s₀.heap.get? b=some o/\X.H₀ b=none
 bsz:X.base.objs.size<=X.s₀.heap.objs.size
 noex:∀b o,X.base.get? b=some o->b∉X.ex
 exfs:∀b∈X.ex,b∉X.fs
 funs:X.s₀.heap.FunFrames X.base X.outer
 frf:∀b∈X.fs,X.H₀ b=none
structure Inv (X:Cx) (J':O4 (OZ×Obj)) (σ:O4 (O7 V)) (H:Hp) (s:OY):Prop where
 ok:X.Ok
 os:s.os=X.s₀.os
 bare:AllBare s.gens
 base:Un X.fs X.ex X.H₀ H X.s₀.heap s.heap
 loc:∃m,s.heap.Ns X.env.locals m/\∀(i:Nat) (x:Str) (v:V),X.N[i]? =some x->σ[i]? =some (some v)->Vis X.env.scope x->∃u,av v u/\w6 X.env s.heap m x u
 cell:∀x c,X.env.cells.lookup x=some c->∃v,s.heap.IsCell c v
 free:H X.env.locals=none
 freeC:∀x c,X.env.cells.lookup x=some c->H c=none
 pin:∀p∈X.pn++J',s.heap.get? p.1=some p.2/\H p.1=none/\p.1≠X.env.locals/\p.1∉X.fs/\∀v,p.2.data≠ .cell v
 hok:HOk X.prog X.w H s.heap
 len:σ.length=X.N.length
section
variable {X:Cx}{J':O4 (OZ×Obj)}{σ:O4 (O7 V)}{H H':Hp}{s:OY}{h':O6}
theorem Cx.Ok.nofr (ok:X.Ok) (e:X.base.get? b=some o):b∉X.fs:=fun hb=>by
 have:=(ok.funs.mem hb).1;rw[e] at this;cases this
theorem Inv.bs (I:Inv X J' σ H s):∀b o,X.base.get? b=some o->s.heap.get? b=some o/\H b=none:=fun b o e=>
 ⟨I.base.keep b o (I.ok.bs b o e).1 (I.ok.bs b o e).2 (I.ok.nofr e) (I.ok.noex b o e),I.base.free b o (I.ok.bs b o e).1 (I.ok.bs b o e).2 (I.ok.noex b o e)⟩
def Inv.bk (I:Inv X J' σ H s):∀b o,X.base.get? b=some o->s.heap.get? b=some o:=fun b o e=>(I.bs b o e).1
theorem Inv.mod (I:Inv X J' σ H s):Mod X.K X.mg X.base:=I.ok.mod
def Inv.kIn (I:Inv X J' σ H s):X.K.In s.heap:=I.ok.mod.kin.keeps I.bk
theorem Inv.lt (I:Inv X J' σ H s):X.env.locals<s.heap.objs.size:=let ⟨_,hn,_⟩:=I.loc;hn.lt
def Inv.sz (I:Inv X J' σ H s):X.s₀.heap.objs.size<=s.heap.objs.size:=B7 I.ok.above (Ae I.lt)
theorem Inv.nofs (I:Inv X J' σ H s) (h:s.heap.objs.size<=a):a∉X.fs:=fun hb=>by
 obtain⟨_,o,ho,_⟩:=I.ok.funs.mem hb;exact absurd (Ap (AM ho) (B7 I.sz h)) (C6 _)
theorem Inv.cne (I:Inv X J' σ H s):∀x c,X.env.cells.lookup x=some c->c≠X.env.locals:=fun x c e z=>by
 obtain⟨v,o,ho,hd⟩:=I.cell x c e;obtain⟨m,⟨o',es,ep,KJ,Ll,_⟩,_⟩:=I.loc;rw[z,KJ] at ho;cases ho;rw[Ll] at hd;cases hd
theorem Inv.funs (I:Inv X J' σ H s):s.heap.FunFrames X.base X.outer:=by
 have all:∀(l:O4 Env),(∀b∈frs l,b∈X.fs)->X.s₀.heap.FunFrames X.base l->s.heap.FunFrames X.base l:=by
  intro l;induction l with
  |nil=>intro _ _;trivial
  |cons env r ih=>
   intro hs hl;obtain⟨hk,⟨L,o,hf,hn,ho,hd⟩,hr⟩:=hl;have hL:L∈X.fs:=hs L (by unfold frs;rw[Ce,hf];exact AH);obtain⟨sl,e⟩:=I.base.slot L o ho (I.ok.frf L hL) hL fun z=>I.ok.exfs L z hL;exact⟨hk,⟨L,_,hf,hn,e,hd⟩,ih (fun b hb=>hs b (by unfold frs;rw[Ce,hf];exact AL _ hb)) hr⟩
 exact all X.outer (fun _ hb=>hb) I.ok.funs
theorem Inv.stack (I:Inv X J' σ H s):s.heap.FunFrames X.base X.stack:=by
 rcases I.ok.stk with e|⟨e,hf⟩
 .rw [e];exact I.funs
 .rw [e];obtain⟨m,hn,_⟩:=I.loc;refine .cons (by rw[I.ok.kind];decide) hf hn ?_ I.funs;exact Heap.get?_none_of_le (B7 I.ok.bsz I.ok.above)
theorem Inv.stkSub (I:Inv X J' σ H s):∀b∈frs X.stack,b∈X.env.locals::X.fs:=fun b hb=>by
 rcases I.ok.stk with e|⟨e,hf⟩
 .rw [e] at hb;exact AL _ hb
 .rw [e] at hb;unfold frs at hb;rw[Ce,hf] at hb;exact hb
theorem Inv.stkFree (I:Inv X J' σ H s):∀b∈frs X.stack,H b=none:=fun b hb=>by
 rcases AJ.mp (I.stkSub b hb) with e|hb
 .rw [e];exact I.free
 .obtain⟨_,o,ho,_⟩:=I.ok.funs.mem hb;exact I.base.free b o ho (I.ok.frf b hb) fun z=>I.ok.exfs b z hb
theorem Inv.step {g':Array GenState}{t':Nat}{d':Drawn}(I:Inv X J' σ H s)
  (LL:∀b∈ch,(b∈X.ex\/X.s₀.heap.objs.size<=b)/\b≠X.env.locals/\(∀x c,X.env.cells.lookup x=some c->c≠b)/\∀p∈X.pn++J',p.1≠b)
  (keep:∀b o,b≠X.env.locals->b∉X.fs->b∉ch->s.heap.get? b=some o->H b=none->h'.get? b=some o)
  (slot:∀b o,b≠X.env.locals->b∈X.fs->b∉ch->s.heap.get? b=some o->H b=none->∃sl,h'.get? b=some {o with slots:=sl}) (free:∀b o,b∉ch->s.heap.get? b=some o->H b=none->H' b=none)
  (there:∀b o,b∉ch->s.heap.get? b=some o->∃o',h'.get? b=some o')
  (tups:∀b xs,H b=some (.tup xs)->H' b=some (.tup xs)) (frzs:∀b o u,H b=some (.frz o u)->H' b=some (.frz o u)) (tbls:∀b ps,H b=some (.tbl ps)->∃more,H' b=some (.tbl (ps++more)))
  (ns:∀m,s.heap.Ns X.env.locals m->h'.Ns X.env.locals m) (hok:HOk X.prog X.w H' h') (hg:AllBare g'):
  Inv X J' σ H' {s with heap:=h',gens:=g',drawn:=d',toks:=t'}:=by
 have neL:∀b o,X.s₀.heap.get? b=some o->b≠X.env.locals:=fun b o e=>AT (Ap (AM e) I.ok.above);have neC:∀b o,X.s₀.heap.get? b=some o->b∉X.ex->b∉ch:=fun b o e hx hb=>by
  rcases(LL b hb).1 with z|z
  .exact hx z
  .exact absurd (Ap (AM e) z) (C6 _)
 have NQ:∀x c,X.env.cells.lookup x=some c->∀v,s.heap.IsCell c v->h'.IsCell c v:=fun x c e v ⟨o,ho,hd⟩=>by
  have nch:c∉ch:=fun z=>(LL c z).2.2.1 x c e rfl;by_cases hc:c∈X.fs
  .obtain⟨sl,q⟩:=slot c o (I.cne x c e) hc nch ho (I.freeC x c e);exact⟨_,q,hd⟩
  .exact⟨o,keep c o (I.cne x c e) hc nch ho (I.freeC x c e),hd⟩
 refine⟨I.ok,I.os,hg,⟨fun b o e n hb hx=> ?_,fun b o e n hb hx=> ?_,fun b o e n hx=> ?_,fun b o e hx=> ?_,fun b xs e=>tups b xs (I.base.tups b xs e),fun b o xs e=>frzs b o xs (I.base.frzs b o xs e),fun b ps e=> ?_⟩, ?_,fun x c e=> ?_, ?_,fun x c e=> ?_,fun p hp=> ?_,hok,I.len⟩
 .exact keep b o (neL b o e) hb (neC b o e hx) (I.base.keep b o e n hb hx) (I.base.free b o e n hx)
 .obtain⟨sl,e1⟩:=I.base.slot b o e n hb hx;obtain⟨sl',e2⟩:=slot b _ (neL b o e) hb (neC b o e hx) e1 (I.base.free b o e n hx);exact⟨sl',e2⟩
 .obtain⟨o',e1⟩:=I.base.there b o e hx;exact free b o' (neC b o e hx) e1 (I.base.free b o e n hx)
 .obtain⟨o',e1⟩:=I.base.there b o e hx;exact there b o' (neC b o e hx) e1
 .obtain⟨m1,e1⟩:=I.base.tbls b ps e;obtain⟨m2,e2⟩:=tbls b _ e1;exact⟨m1++m2,by rw[e2,Array.append_assoc]⟩
 .obtain⟨m,hn,hl⟩:=I.loc;refine⟨m,ns m hn,fun i x v e1 e2 e3=> ?_⟩;obtain⟨u,r,l⟩:=hl i x v e1 e2 e3;refine⟨u,r, ?_⟩;rcases l with l|⟨k,c,e,z⟩
  .exact .inl l
  .exact .inr ⟨k,c,e,NQ x c e _ z⟩
 .obtain⟨v,z⟩:=I.cell x c e;exact⟨v,NQ x c e v z⟩
 .obtain⟨m,⟨o,_,_,ho,_⟩,_⟩:=I.loc;exact free _ o (fun z=>(LL _ z).2.1 rfl) ho I.free
 .obtain⟨v,o,ho,hd⟩:=I.cell x c e;exact free c o (fun z=>(LL c z).2.2.1 x c e rfl) ho (I.freeC x c e)
 .obtain⟨e,n,ne,nf,d⟩:=I.pin p hp;have nch:p.1∉ch:=fun z=>(LL p.1 z).2.2.2 p hp rfl;exact⟨keep p.1 p.2 ne nf nch e n,free p.1 p.2 nch e n,ne,nf,d⟩
theorem Inv.un {t':Nat} (I:Inv X J' σ H s) (u:Un X.fs [] H H' s.heap h') (hok:HOk X.prog X.w H' h'):Inv X J' σ H' {s with heap:=h',toks:=t'}:=by
 obtain⟨m,⟨o,es,ep,ho,r⟩,_⟩:=id I.loc;obtain⟨sl,hL⟩:=u.any ho I.free (by simp);exact I.step (g':=s.gens) (d':=s.drawn) (ch:=[]) (fun _ z=>nomatch z) (fun b o _ hb _ e n=>u.keep b o e n hb (by simp)) (fun b o _ hb _ e n=>u.slot b o e n hb (by simp)) (fun b o _ e n=>u.free b o e n (by simp)) (fun b o _ e=>u.there b o e (by simp)) u.tups u.frzs u.tbls (fun m' hm=>by
  obtain⟨o',KL,MI,KJ,r'⟩:=hm;rw[ho] at KJ;cases KJ;exact⟨_,KL,MI,hL,r'⟩) hok I.bare
theorem Inv.call {g':Array GenState}{t':Nat}{d':Drawn}(I:Inv X J' σ H s) (u:Un (frs X.stack) ch H H' s.heap h') (hok:HOk X.prog X.w H' h') (hg:AllBare g')
  (LL:∀b∈ch,(b∈X.ex\/X.s₀.heap.objs.size<=b)/\b≠X.env.locals/\(∀x c,X.env.cells.lookup x=some c->c≠b)/\∀p∈X.pn++J',p.1≠b):
  Inv X J' σ H' {s with heap:=h',gens:=g',drawn:=d',toks:=t'}:=by
 obtain⟨m,⟨o,es,ep,ho,r⟩,_⟩:=id I.loc;obtain⟨sl,hL⟩:=u.any ho I.free fun z=>(LL _ z).2.1 rfl;exact I.step (ch:=ch) LL (fun b o hL hb hc e n=>u.keep b o e n (fun z=>(AJ.mp (I.stkSub b z)).elim hL hb) hc) (fun b o _ _ hc e n=>u.any e n hc) (fun b o hc e n=>u.free b o e n hc) (fun b o hc e=>u.there b o e hc) u.tups u.frzs u.tbls (fun m' hm=>by
  obtain⟨o',KL,MI,KJ,r'⟩:=hm;rw[ho] at KJ;cases KJ;exact⟨_,KL,MI,hL,r'⟩) hok hg
theorem Inv.turned {t':Nat}(I:Inv X J' σ H s) (k:∀b o,b≠it->s.heap.get? b=some o->h'.get? b=some o) (hn:H it=none) (hL:it≠X.env.locals)
  (h1:it∈X.ex\/X.s₀.heap.objs.size<=it) (h2:∀x c,X.env.cells.lookup x=some c->c≠it) (h3:∀p∈X.pn++J',p.1≠it):Inv X J' σ H {s with heap:=h',toks:=t'}:=by
 have nit:∀b u,H b=some u->b≠it:=fun b u e z=>by rw[z,hn] at e;cases e
 refine I.step (g':=s.gens) (d':=s.drawn) (ch:=[it]) (fun b hb=> ?_) (fun b o _ _ hc e _=>k b o (fun z=>hc (by simp[z])) e) (fun b o _ _ hc e _=>⟨o.slots,k b o (fun z=>hc (by simp[z])) e⟩) (fun _ _ _ _ n=>n)
  (fun b o hc e=>⟨o,k b o (fun z=>hc (by simp[z])) e⟩) (fun _ _ e=>e) (fun _ _ _ e=>e) (fun b ps e=>⟨#[],by rw[e];simp⟩) (fun m hm=> ?_) (fun b u e=> ?_) I.bare
 .have e:b=it:=by simpa using hb
  subst e;exact⟨h1,hL,h2,h3⟩
 .obtain⟨o,es,ep,ho,r⟩:=hm;exact⟨o,es,ep,k _ o (Ne.symm hL) ho,r⟩
 .refine(I.hok b u e).stay (fun c v hc q=>k c v ?_ q) (fun _ q=>q) fun _ _ q=>q;rcases hc with z|z
  .rw [z];exact nit b u e
  .exact nit c _ z
def Inv.tok (I:Inv X J' σ H s) (t:Nat):Inv X J' σ H {s with toks:=t}:=I.un (h':=s.heap) (t':=t) Un.refl I.hok
theorem Inv.kept {t':Nat} (I:Inv X J' σ H s) (k:∀b u,s.heap.get? b=some u->h'.get? b=some u):Inv X J' σ H {s with heap:=h',toks:=t'}:=I.un (Un.kept k) (I.hok.kept k)
theorem Inv.laid {a:OZ}{o:HO}{t':Nat} (I:Inv X J' σ H s) (k:∀b u,s.heap.get? b=some u->h'.get? b=some u) (hp:s.heap.objs.size<=a) (new:aI X.prog X.w (upd H a o) h' a o):
  Inv X J' σ (upd H a o) {s with heap:=h',toks:=t'}:=I.un (Un.laid k hp (I.hok.fresh hp)) (I.hok.laid k hp new)
theorem Inv.write {x e:OZ}{o:HO}{t':Nat} (I:Inv X J' σ H s) (mu:Mut (H x)) (he:e=x\/H e=some (.own x)) (k:∀b u,b≠e->s.heap.get? b=some u->h'.get? b=some u) (heo:∃u,h'.get? e=some u)
  (new:aI X.prog X.w (upd H x o) h' x o):Inv X J' σ (upd H x o) {s with heap:=h',toks:=t'}:=I.un (Un.write mu he k heo) (I.hok.write mu he k heo new)
def Inv.weak {σ':O4 (O7 V)} (I:Inv X J' σ H s) (hl:σ'.length=σ.length) (w:∀(i:Nat) v,σ'[i]? =some (some v)->σ[i]? =some (some v)):Inv X J' σ' H s:=
 ⟨I.ok,I.os,I.bare,I.base,let ⟨m,hn,Mo⟩:=I.loc;⟨m,hn,fun i x v e1 e2 e3=>Mo i x v e1 (w i v e2) e3⟩,I.cell,I.free,I.freeC,I.pin,I.hok,hl.trans I.len⟩
def Inv.pins_of {NR:O4 (OZ×Obj)} (I:Inv X J' σ H s) (h:∀p∈NR,s.heap.get? p.1=some p.2/\H p.1=none/\p.1≠X.env.locals/\p.1∉X.fs/\∀v,p.2.data≠ .cell v):Inv X NR σ H s:=
 ⟨I.ok,I.os,I.bare,I.base,I.loc,I.cell,I.free,I.freeC,fun p hp=>(BI.mp hp).elim (fun z=>I.pin p (Bx _ z)) (h p),I.hok,I.len⟩
theorem pX (hN:N.Nodup) (a:N[i]? =some x) (b:N[j]? =some x):i=j:=by
 obtain⟨h1,e1⟩:=AD.mp a;obtain⟨h2,e2⟩:=AD.mp b;exact(List.getElem_inj hN).mp (e1.trans e2.symm)
theorem w8 {M:Model}{A:O3}{E:MR->OY->Prop}{Q:Unit->OY->Prop} (I:Inv X J' σ H s) (hN:X.N.Nodup) (hi:X.N[i]? =some x) (hx:Loc X.env.scope x) (r:av v u)
  (h:∀s',Inv X J' (σ.set i (some v)) H s'->(∃a,Heap.SameBut a s.heap s'.heap/\(a=X.env.locals\/X.env.cells.lookup x=some a))->Q () s') (hf:X.fn x=true\/X.env.scope.names.lookup x=some .local:=by first|exact .inl rfl|exact .inr rfl|assumption):wpAny M A (storeName X.env x u) Q E s:=by
 obtain⟨m,hn,hl⟩:=id I.loc;have hcls:(X.env.scope.kind== .class||(X.env.scope.kind== .module&&X.env.locals !=X.env.globals))=false:=by rw[I.ok.kind];rfl
 have hiσ:i<σ.length:=by rw[I.len];exact(AD.mp hi).1
 have cne:=I.cne;have Mp:∀{a:OZ}{h':O6},(∃o,s.heap.get? a=some o/\H a=none)->Heap.SameBut a s.heap h'->HOk X.prog X.w H h':=fun{a h'} ha hs b ob e=>by
  obtain⟨_,_,KZ⟩:=ha;refine(I.hok b ob e).stay (fun c w' hc q=>(hs.2 c ?_).trans q) (fun _ q=>q) fun _ _ q=>q;rintro rfl;rcases hc with rfl|hc
  .rw [KZ] at e;cases e
  .rw [KZ] at hc;cases hc
 rcases hx with hk|hk
 .refine wpAny_storeName_local hk hn (fun h' NS hs=> ?_) hcls;obtain⟨oL,_,_,Oa,_⟩:=id hn;refine h _ ⟨I.ok,I.os,I.bare,⟨fun b o e n hb hx=> ?_,fun b o e n hb hx=> ?_,I.base.free,fun b o e hx=> ?_,I.base.tups,I.base.frzs,I.base.tbls⟩,⟨_,NS,fun j y v' e1 e2 e3=> ?_⟩,fun y c e=> ?_,I.free,I.freeC,fun p hp=> ?_,Mp ⟨oL,Oa,I.free⟩ hs,by simpa using I.len⟩ ⟨_,hs, .inl rfl⟩
  .exact(hs.2 b (AT (Ap (AM e) I.ok.above))).trans (I.base.keep b o e n hb hx)
  .obtain⟨sl,e1⟩:=I.base.slot b o e n hb hx;exact⟨sl,(hs.2 b (AT (Ap (AM e) I.ok.above))).trans e1⟩
  .obtain⟨o',e1⟩:=I.base.there b o e hx;exact⟨o',(hs.2 b (AT (Ap (AM e) I.ok.above))).trans e1⟩
  .by_cases hj:j=i
   .subst hj;rw[hi] at e1;cases e1;rw[List.getElem?_set_self hiσ] at e2;cases e2;exact⟨u,r, .inl ⟨hk,by simp⟩⟩
   .rw [Bl (Ne.symm hj)] at e2;obtain⟨u',r',q⟩:=hl j y v' e1 e2 e3;refine⟨u',r', ?_⟩;rcases q with⟨k,e⟩|⟨k,c,e,z⟩
    .refine .inl ⟨k, ?_⟩;have:y≠x:=fun e=>hj (pX hN e1 (e▸hi));simp[this,e]
    .exact .inr ⟨k,c,e,z.sameBut hs (cne y c e)⟩
  .obtain⟨w',z⟩:=I.cell y c e;exact⟨w',z.sameBut hs (cne y c e)⟩
  .obtain⟨e,n,ne,nf,d⟩:=I.pin p hp;exact⟨(hs.2 p.1 ne).trans e,n,ne,nf,d⟩
 .have hfn:X.fn x=true:=by
   rcases hf with z|z
   .exact z
   .rw [z] at hk;cases hk
  obtain⟨c,hc⟩:=I.ok.has x (.inl hk);obtain⟨w',z⟩:=I.cell x c hc;refine wpAny_storeName_cell I.ok.kind hk hc z (fun h' hc' hs=> ?_);obtain⟨oc,hoc,hocd⟩:=id z;refine h {s with heap:=h'} ⟨I.ok,I.os,I.bare,⟨fun b o e n hb hx=> ?_,fun b o e n hb hx=> ?_,I.base.free,fun b o e hx=> ?_,I.base.tups,I.base.frzs,I.base.tbls⟩,⟨m,hn.sameBut hs (Ne.symm (cne x c hc)),fun j y v' e1 e2 e3=> ?_⟩,fun y c' e=> ?_,I.free,I.freeC,fun p hp=> ?_,Mp ⟨oc,hoc,I.freeC x c hc⟩ hs,by simpa using I.len⟩ ⟨c,hs, .inr hc⟩
  .exact(hs.2 b (AT (Ap (AM e) (I.ok.cab x c hfn hc)))).trans (I.base.keep b o e n hb hx)
  .obtain⟨sl,e1⟩:=I.base.slot b o e n hb hx;exact⟨sl,(hs.2 b (AT (Ap (AM e) (I.ok.cab x c hfn hc)))).trans e1⟩
  .obtain⟨o',e1⟩:=I.base.there b o e hx;exact⟨o',(hs.2 b (AT (Ap (AM e) (I.ok.cab x c hfn hc)))).trans e1⟩
  .by_cases hj:j=i
   .subst hj;rw[hi] at e1;cases e1;rw[List.getElem?_set_self hiσ] at e2;cases e2;exact⟨u,r, .inr ⟨.inl hk,c,hc,hc'⟩⟩
   .rw [Bl (Ne.symm hj)] at e2;obtain⟨u',r',q⟩:=hl j y v' e1 e2 e3;refine⟨u',r', ?_⟩;rcases q with q|⟨k,c',e,z'⟩
    .exact .inl q
    .refine .inr ⟨k,c',e,z'.sameBut hs ?_⟩;rintro rfl;exact hj (pX hN e1 (I.ok.inj _ _ _ e hc▸hi))
  .by_cases hcc:c'=c
   .subst hcc;exact⟨_,hc'⟩
   .obtain⟨w2,z2⟩:=I.cell y c' e;exact⟨w2,z2.sameBut hs hcc⟩
  .obtain⟨e,n,ne,nf,d⟩:=I.pin p hp;refine⟨(hs.2 p.1 ?_).trans e,n,ne,nf,d⟩;intro q;rw[q,hoc] at e;have q':oc=p.2:=Ao e;exact d w' (by rw[<-q'];exact hocd)
theorem jp {M:Model}{A:O3}{E:MR->OY->Prop}{Q:Unit->OY->Prop} (I:Inv X J' σ H s) (hN:X.N.Nodup) (hi:X.N[i]? =some x) (hx:Loc X.env.scope x) (r:av v u)
  (h:∀s',Inv X J' (σ.set i (some v)) H s'->Q () s') (hf:X.fn x=true\/X.env.scope.names.lookup x=some .local:=by first|exact .inl rfl|exact .inr rfl|assumption):wpAny M A (storeName X.env x u) Q E s:=
 w8 I hN hi hx r (fun s' I' _=>h s' I') hf
theorem Inv.call' {s':OY}(I:Inv X J' σ H s) (ho:s'.os=s.os) (u:Un (frs X.stack) ch H H' s.heap s'.heap) (hok:HOk X.prog X.w H' s'.heap) (hg:AllBare s'.gens)
  (LL:∀b∈ch,(b∈X.ex\/X.s₀.heap.objs.size<=b)/\b≠X.env.locals/\(∀x c,X.env.cells.lookup x=some c->c≠b)/\∀p∈X.pn++J',p.1≠b):Inv X J' σ H' s':=by
 obtain⟨h',g',d',t',o'⟩:=s';have e:o'=s.os:=ho;subst e;exact I.call (g':=g') (t':=t') (d':=d') u hok hg LL
end
abbrev XK:=MR->O7 OZ->Hp->Prop
abbrev St:=O4 (O7 V)
abbrev VK:=V->Hp->Prop
abbrev TE:=St->Hp->VK->Prop
variable {te tl to:TE}
abbrev TT:=St->Hp->(Bool->Hp->Prop)->Prop
abbrev TA:=St->Hp->(O4 V->Hp->Prop)->Prop
variable {ta:TA}
structure Ends where
 nx:St->Hp->Prop
 rt:VK
 bk:St->Hp->Prop:=fun _ _=>False
 ct:St->Hp->Prop:=fun _ _=>False
abbrev TS:=Ends->St->Hp->Prop
variable {tb:TS}
abbrev eTo (D:Ends) (n:St->Hp->Prop):Ends:=⟨n,D.rt,D.bk,D.ct⟩
abbrev eLp (D:Ends) (n:St->Hp->Prop):Ends:=⟨n,D.rt,D.nx,n⟩
inductive pY (X:Cx) (J':List (Addr×Obj)) (σ:St) (Q:VK) (u:Value) (s':Shared):Prop
 |mk v H':Inv X J' σ H' s'->av v u->Q v H'->pY X J' σ Q u s'
def EP (X:Cx) (J':O4 (OZ×Obj)) (σ:St) (Q:VK) (u:MR) (s':OY):Prop:=pY X J' σ Q u s'
inductive pZ (X:Cx) (J':List (Addr×Obj)) (σ:St) (Q:Bool->Hp->Prop) (b:Bool) (s':Shared):Prop
 |mk H':Inv X J' σ H' s'->Q b H'->pZ X J' σ Q b s'
def TP (X:Cx) (J':O4 (OZ×Obj)) (σ:St) (Q:Bool->Hp->Prop) (b:Bool) (s':OY):Prop:=pZ X J' σ Q b s'
inductive p6 (X:Cx) (J':List (Addr×Obj)) (σ:St) (Q:List V->Hp->Prop) (us:List Value) (s':Shared):Prop
 |mk vs H':Inv X J' σ H' s'->au vs us->Q vs H'->p6 X J' σ Q us s'
def AP (X:Cx) (J':O4 (OZ×Obj)) (σ:St) (Q:O4 V->Hp->Prop) (us:O4 MR) (s':OY):Prop:=p6 X J' σ Q us s'
def SP (X:Cx) (J':O4 (OZ×Obj)) (D:Ends) (f:Flow) (s':OY):Prop:=
 match f with
 | .next=>∃σ' H',Inv X J' σ' H' s'/\D.nx σ' H'
 | .brk=>∃σ' H',Inv X J' σ' H' s'/\D.bk σ' H'
 | .cont=>∃σ' H',Inv X J' σ' H' s'/\D.ct σ' H'
 | .ret u=>∃v σ' H',Inv X J' σ' H' s'/\av v u/\D.rt v H'
def PE (X:Cx) (e:O5) (t:TE):Prop:=
 ∀(J':O4 (OZ×Obj)) (s:OY) (σ:St) (H:Hp) (Q:VK),Inv X J' σ H s->t σ H Q->wpAny (model X.prog X.w) X.A (eval e X.env) (EP X J' σ Q) X.xe s
def PT (X:Cx) (e:O5) (t:TT):Prop:=
 ∀(J':O4 (OZ×Obj)) (s:OY) (σ:St) (H:Hp) (Q:Bool->Hp->Prop),Inv X J' σ H s->t σ H Q->wpAny (model X.prog X.w) X.A (isTrue e X.env (eval e X.env)) (TP X J' σ Q) X.xe s
def PW (X:Cx) (e:O5) (t:TT):Prop:=
 ∀(K4:Sem MR) (J':O4 (OZ×Obj)) (s:OY) (σ:St) (H:Hp) (Q:Bool->Hp->Prop),Inv X J' σ H s->t σ H Q->wpAny (model X.prog X.w) X.A (isTrue e X.env K4) (TP X J' σ Q) X.xe s
def PW.pt {t:TT} (h:PW X e t):PT X e t:=h _
def PA (X:Cx) (es:O4 O5) (t:TA):Prop:=
 ∀(pos:Pos) (J':O4 (OZ×Obj)) (s:OY) (σ:St) (H:Hp) (Q:O4 V->Hp->Prop),Inv X J' σ H s->t σ H Q->wpAny (model X.prog X.w) X.A (spliced (backTo pos (starEach es X.env))) (AP X J' σ Q) X.xe s
def PS (X:Cx) (st:O8) (t:TS):Prop:=
 ∀(J':O4 (OZ×Obj)) (s:OY) (σ:St) (H:Hp) (D:Ends),Inv X J' σ H s->t D σ H->wpAny (model X.prog X.w) X.A (exec st X.env) (SP X J' D) X.xe s
def PSs (X:Cx) (st:O4 O8) (t:TS):Prop:=
 ∀(J':O4 (OZ×Obj)) (s:OY) (σ:St) (H:Hp) (D:Ends),Inv X J' σ H s->t D σ H->wpAny (model X.prog X.w) X.A (execs st X.env) (SP X J' D) X.xe s
def thn {α:Type}{t:Sem α}{Q Q':α->OY->Prop}(h:wpAny M A t Q E s) (hQ:∀a s,Q a s->Q' a s):wpAny M A t Q' E s:=Bm h hQ fun _ _ x=>x
section
variable {X:Cx}
inductive tVar (i:Nat) (σ:St) (H:Hp) (Q:VK):Prop
 |mk v:σ[i]? =some (some v)->Q v H->tVar i σ H Q
def tC (v:V):TE:=fun _ H Q=>Q v H
theorem w9 {pos:Pos} (hN:X.N[i]? =some x) (hv:Vis X.env.scope x) (hd:(x==("__debug__":Str))=false:=by decide) (MJ:(x==("__classdict__":Str))=false:=by decide):PE X (.Name x pos) (tVar i):=by
 intro J' s σ H Q I h;obtain⟨v,e,h⟩:=h;obtain⟨m,hn,hl⟩:=I.loc;obtain⟨u,r,l⟩:=hl i x v hN e hv;have fin:EP X J' σ Q u s:=⟨v,H,I,r,h⟩;rcases l with⟨hk,hm⟩|⟨hk,c,hc,KD⟩
 .exact wpAny_Name (wpAny_loadName_local I.ok.kind hk hn hm fin) hd
 .rcases hk with hk|hk
  .exact wpAny_Name (wpAny_loadName_cell I.ok.kind hk hc KD fin) hd
  .exact wpAny_Name (wpAny_loadName_free I.ok.kind hk hc KD fin MJ) hd
def ag {i j pos}:PE X (.Constant (.int i) j pos) (tC (.int i)):=fun _ _ _ H _ I h=>wpAny_Constant_int ⟨.int i,H,I.tok _,⟨_,rfl⟩,h⟩
def kX {b j pos}:PE X (.Constant (.bool b) j pos) (tC (.bl b)):=fun _ _ _ H _ I h=>Constant_bool ⟨.bl b,H,I,rfl,h⟩
def p7 {j pos}:PE X (.Constant .none j pos) (tC .non):=fun _ _ _ H _ I h=>Constant_none ⟨.non,H,I,rfl,h⟩
def Gl (X:Cx) (x:Str):Prop:=X.env.kindOf x=some .globalImplicit
theorem p8 {E:MR->OY->Prop}{σ:St}{pos:Pos}(I:Inv X J' σ H s) (hg:Gl X x) (hm:X.mg x=some u) (h:Q u s)
  (hd:(x==("__debug__":Str))=false:=by decide):wpAny (model X.prog X.w) X.A (eval (.Name x pos) X.env) Q E s:=
 Calls.Name_function_global I.ok.kind hg (Calls.loadGlobal_global (by rw[I.ok.glob];exact I.mod.glob.keeps I.bk) hm h) hd
theorem dg {E:MR->OY->Prop}{σ:St}{pos:Pos}(I:Inv X J' σ H s) (hg:Gl X x) (hm:X.mg x=none) (hv:bootBuiltins x=some u) (h:Q u s)
  (hn:x≠"__name__":=by decide) (hd:(x==("__debug__":Str))=false:=by decide):wpAny (model X.prog X.w) X.A (eval (.Name x pos) X.env) Q E s:=by
 obtain⟨mb,h1,h2⟩:=I.mod.blt;exact Calls.Name_function_global I.ok.kind hg (Calls.loadGlobal_builtin (by rw[I.ok.glob];exact I.mod.glob.keeps I.bk) hm (by rw[I.ok.blt];exact h1.keeps I.bk) ((h2 x hn).trans hv) h) hd
theorem jq {pos:Pos} (hg:Gl X x) (hm:X.mg x=some u) (r:av v u) (hd:(x==("__debug__":Str))=false:=by decide):PE X (.Name x pos) (tC v):=
 fun _ _ _ H _ I h=>p8 I hg hm ⟨v,H,I,r,h⟩ hd
theorem io {pos:Pos} (hg:Gl X x) (hm:X.mg x=none) (hv:bootBuiltins x=some u) (r:av v u) (hn:x≠"__name__":=by decide) (hd:(x==("__debug__":Str))=false:=by decide):PE X (.Name x pos) (tC v):=
 fun _ _ _ H _ I h=>dg I hg hm hv ⟨v,H,I,r,h⟩ hn hd
variable {a b:O5}{ta tb:TE}{pos:Pos}
def PC (X:Cx) (op:CmpOp) (a b:O5) (t:TE):Prop:=
 ∀(J':O4 (OZ×Obj)) (s:OY) (σ:St) (H:Hp) (Q:VK),Inv X J' σ H s->t σ H Q->
  wpAny (model X.prog X.w) X.A (eval a X.env) (fun v s₁=>wpAny (model X.prog X.w) X.A (eval b X.env) (fun u s₂=>wpAny (model X.prog X.w) X.A (compareOp op v u) (EP X J' σ Q) X.xe s₂) X.xe s₁) X.xe s
theorem xa (b:O5) (h:op≠ .In) (h2:op≠ .NotIn):behindInMarks op b=false:=by
 have e1:(op==CmpOp.In)=false:=by cases op<;>first|rfl|exact absurd rfl h
 have e2:(op==CmpOp.NotIn)=false:=by cases op<;>first|rfl|exact absurd rfl h2
 cases b<;>first|rfl|(show(_&&(op==CmpOp.In||op==CmpOp.NotIn)&&_)=false;rw[e1,e2,Bool.or_self,C9,Cw])
inductive p9 (Q:(Bool->Hp->Prop)) (x:V) (H1:Hp):Prop
 |mk c:x= .bl c->Q c H1->p9 Q x H1
def tB (t:TE):TT:=fun σ H Q=>t σ H fun x H1=>p9 Q x H1
theorem kY {t:TE} (h:PC X op a b t) (h1:behindInMarks op b=false:=by first|exact xa _ (by decide) (by decide)|rfl):PT X (.Compare a [op] [b] pos) (tB t):=by
 intro J' s σ H Q I hw;refine wpAny_isTrue_Compare1 (thn (h J' s σ H _ I hw) fun v s1 h1=>thn h1 fun u s2 h2=>thn h2 fun c s3 ⟨x,H1,I1,r1,q1⟩=> ?_) h1;obtain⟨d,rfl,q⟩:=q1;cases r1;exact B9 ⟨H1,I1,q⟩
theorem dQ {e:Expr}{t:TE} (h:PE X e t) (he:∀K4,isTrue e X.env K4=(do let v<-K4;standAt e.pos;holding [v] (truthy v)):=by intro _;rfl):PT X e (tB t):=by
 intro J' s σ H Q I hw;refine isTrue_plain (thn (h J' s σ H _ I hw) fun v s1 ⟨x,H1,I1,r1,q1⟩=> ?_) (he _);obtain⟨d,rfl,q⟩:=q1;cases r1;exact B9 ⟨H1,I1,q⟩
variable {tA tB':TT}{aJ:O4 O5}
def xb (t u:TT):TT:=fun σ H Q=>t σ H fun c H1=>if c=true then u σ H1 Q else Q false H1
def tOr (t u:TT):TT:=fun σ H Q=>t σ H fun c H1=>if c=true then Q true H1 else u σ H1 Q
def xc (t:TT):TT:=fun σ H Q=>t σ H fun c H1=>Q (!c) H1
theorem jr (ha:PT X a tA):PW X (.BoolOp .And [a] pos) tA:=by
 intro wh J' s σ H Q I h;refine isTrue_and (thn (ha J' s σ H Q I h) fun c s1 e=> ?_);cases c with
 |true=>exact isTrue_and_nil e
 |false=>exact e
theorem gm (ha:PT X a tA):PW X (.BoolOp .Or [a] pos) tA:=by
 intro wh J' s σ H Q I h;refine isTrue_or (thn (ha J' s σ H Q I h) fun c s1 e=> ?_);cases c with
 |false=>exact isTrue_or_nil e
 |true=>exact e
theorem jt (ha:PT X a tA) (hb:PW X (.BoolOp .And (b::aJ) pos) tB'):PW X (.BoolOp .And (a::b::aJ) pos) (xb tA tB'):=by
 intro wh J' s σ H Q I h;refine isTrue_and (thn (ha J' s σ H _ I h) fun c s1 ⟨H1,I1,q1⟩=> ?_);cases c with
 |true=>exact hb wh J' s1 σ H1 Q I1 q1
 |false=>exact⟨H1,I1,q1⟩
theorem fm (ha:PT X a tA) (hb:PW X (.BoolOp .Or (b::aJ) pos) tB'):PW X (.BoolOp .Or (a::b::aJ) pos) (tOr tA tB'):=by
 intro wh J' s σ H Q I h;refine isTrue_or (thn (ha J' s σ H _ I h) fun c s1 ⟨H1,I1,q1⟩=> ?_);cases c with
 |true=>exact⟨H1,I1,q1⟩
 |false=>exact hb wh J' s1 σ H1 Q I1 q1
theorem fI (ha:PT X a tA):PT X (.UnaryOp .Not a pos) (xc tA):=by
 intro J' s σ H Q I h;exact isTrue_not (thn (ha J' s σ H _ I h) fun c s1 ⟨H1,I1,q⟩=>⟨H1,I1,q⟩)
inductive tAndV_ (tb:TE) (σ:St) (Q:VK) (x:V) (H1:Hp):Prop
 |mk c:x= .bl c->(if c=true then tb σ H1 Q else Q (.bl false) H1)->tAndV_ tb σ Q x H1
def xf (ta tb:TE):TE:=fun σ H Q=>ta σ H fun x H1=>tAndV_ tb σ Q x H1
inductive tOrV_ (tb:TE) (σ:St) (Q:VK) (x:V) (H1:Hp):Prop
 |mk c:x= .bl c->(if c=true then Q (.bl true) H1 else tb σ H1 Q)->tOrV_ tb σ Q x H1
def xg (ta tb:TE):TE:=fun σ H Q=>ta σ H fun x H1=>tOrV_ tb σ Q x H1
inductive tNotV_ (Q:VK) (x:V) (H1:Hp):Prop
 |mk c:x= .bl c->Q (.bl (!c)) H1->tNotV_ Q x H1
def xh (ta:TE):TE:=fun σ H Q=>ta σ H fun x H1=>tNotV_ Q x H1
def ip {op}{t:TE} (h:PE X a t):PE X (.BoolOp op [a] pos) t:=fun J' s σ H Q I hw=>BoolOp_one (h J' s σ H Q I hw)
theorem ju (ha:PE X a ta) (hb:PE X (.BoolOp .And (b::aJ) pos) tb):PE X (.BoolOp .And (a::b::aJ) pos) (xf ta tb):=by
 intro J' s σ H Q I h;refine BoolOp_and (thn (ha J' s σ H _ I h) fun v s1 ⟨x,H1,I1,r1,q1⟩=> ?_);obtain⟨c,rfl,q1⟩:=q1;cases r1;refine B9 ?_;cases c with
 |true=>exact hb J' s1 σ H1 Q I1 q1
 |false=>exact⟨.bl false,H1,I1,rfl,q1⟩
theorem qc (ha:PE X a ta) (hb:PE X (.BoolOp .Or (b::aJ) pos) tb):PE X (.BoolOp .Or (a::b::aJ) pos) (xg ta tb):=by
 intro J' s σ H Q I h;refine BoolOp_or (thn (ha J' s σ H _ I h) fun v s1 ⟨x,H1,I1,r1,q1⟩=> ?_);obtain⟨c,rfl,q1⟩:=q1;cases r1;refine B9 ?_;cases c with
 |false=>exact hb J' s1 σ H1 Q I1 q1
 |true=>exact⟨.bl true,H1,I1,rfl,q1⟩
theorem xk (ha:PE X a ta):PE X (.UnaryOp .Not a pos) (xh ta):=by
 intro J' s σ H Q I h;refine UnaryOp_ (thn (ha J' s σ H _ I h) fun v s1 ⟨x,H1,I1,r1,q1⟩=> ?_);obtain⟨c,rfl,q1⟩:=q1;cases r1;exact not_of (B9 ⟨.bl (!c),H1,I1,rfl,q1⟩)
def tIf (t:TT) (ta tb:TE):TE:=fun σ H Q=>t σ H fun c H1=>if c=true then ta σ H1 Q else tb σ H1 Q
theorem qe (hc:PT X c tA) (ha:PE X a ta) (hb:PE X b tb):PE X (.IfExp c a b pos) (tIf tA ta tb):=by
 intro J' s σ H Q I h;refine wpAny_IfExp (thn (hc J' s σ H _ I h) fun d s1 ⟨H1,I1,q1⟩=> ?_);cases d with
 |true=>exact ha J' s1 σ H1 Q I1 q1
 |false=>exact hb J' s1 σ H1 Q I1 q1
end
def SqL (K:W.Frag) (H:Hp) (a:OZ) (xs:O4 V):Prop:=
 Rd H a (.lst xs)\/
  ∃(o:Obj) (Kd:Array MR) (n:Nat),K.lookup a=some o/\o.cls= .type "list"/\o.dict=none/\o.data= .seq Kd n/\Kd.size<=sizeLine/\au xs Kd.toList
def SqT (K:W.Frag) (H:Hp) (a:OZ) (xs:O4 V):Prop:=
 Rd H a (.tup xs)\/
  ∃(o:Obj) (Kd:Array MR) (n:Nat),K.lookup a=some o/\o.cls= .type "tuple"/\o.data= .seq Kd n/\Kd.size<=sizeLine/\au xs Kd.toList
def xm:MR->O7 V
 | .none=>some .non
 | .bool b=>some (.bl b)
 | .int i _=>some (.int i)
 | .str x _=>some (.str x)
 | .bytes b _=>some (.byt b)
 | .float b _=>some (.flt b)
 | .ref a=>some (.ref a)
 | .type n=>some (.ty n)
 |_=>none
theorem av.abs {x:V}(r:av x u):xm u=some x:=by
 cases x with
 |non=>cases r;rfl
 |bl _=>cases r;rfl
 |int _=>obtain⟨t,rfl⟩:=r;rfl
 |str _=>obtain⟨t,rfl⟩:=r;rfl
 |byt _=>obtain⟨t,rfl⟩:=r;rfl
 |flt _=>obtain⟨t,rfl⟩:=r;rfl
 |ref _=>cases r;rfl
 |ty _=>cases r;rfl
def av.inj {x y:V}{u:MR} (r:av x u) (q:av y u):x=y:=Ao (r.abs.symm.trans q.abs)
theorem au.inj:∀{xs ys:O4 V}{us:O4 MR},au xs us->au ys us->xs=ys
 |_,_,_, .nil, .nil=>rfl
 |_,_,_, .cons r t, .cons r' t'=>by rw[r.inj r',au.inj t t']
section
variable {X:Cx}{J':O4 (OZ×Obj)}{σ:St}{H:Hp}{s:OY}{a:OZ}{xs ys:O4 V}
def SqL.of (h:H a=some (.lst xs)):SqL K H a xs:= .inl (.inl h)
def SqT.of (h:H a=some (.tup xs)):SqT K H a xs:= .inl (.inl h)
theorem Inv.list (I:Inv X J' σ H s) (h:SqL X.K H a xs):∃Kd:O4 MR,au xs Kd/\PlainL s.heap a Kd.toArray/\xs.length<=sizeLine:=by
 rcases h with h|⟨o,Kd,n,hk,hc,hd,hs,hz,r⟩
 .obtain⟨z,Kd,n,r,e⟩:=h.ok I.hok;exact⟨Kd,r,⟨_,n,e,rfl,rfl,rfl⟩,z⟩
 .refine⟨Kd.toList,r,⟨o,n,I.kIn a o hk,hc,hd,by simpa using hs⟩, ?_⟩;have e:=r.length;simp only[BC] at e;lia
theorem Inv.tuple (I:Inv X J' σ H s) (h:SqT X.K H a xs):∃Kd:O4 MR,au xs Kd/\IsTup s.heap a Kd.toArray/\xs.length<=sizeLine:=by
 rcases h with h|⟨o,Kd,n,hk,hc,hs,hz,r⟩
 .obtain⟨z,Kd,r,p⟩:=h.ok I.hok;exact⟨Kd,r,p,z⟩
 .refine⟨Kd.toList,r,⟨o,I.kIn a o hk,hc,n,by simpa using hs⟩, ?_⟩;have e:=r.length;simp only[BC] at e;lia
theorem Inv.list_inj (I:Inv X J' σ H s) (h:SqL X.K H a xs) (h':SqL X.K H a ys):xs=ys:=by
 obtain⟨Kd,r,⟨o,n,e,_,_,d⟩,_⟩:=I.list h;obtain⟨its',r',⟨o',n',e',_,_,d'⟩,_⟩:=I.list h';rw[e] at e';cases e';rw[d] at d';injection d' with d1 _;have:Kd=its':=by simpa using congrArg Array.toList d1
 subst this;exact r.inj r'
theorem Inv.tuple_inj (I:Inv X J' σ H s) (h:SqT X.K H a xs) (h':SqT X.K H a ys):xs=ys:=by
 obtain⟨Kd,r,⟨o,e,_,n,d⟩,_⟩:=I.tuple h;obtain⟨its',r',⟨o',e',_,n',d'⟩,_⟩:=I.tuple h';rw[e] at e';cases e';rw[d] at d';injection d' with d1 _;have:Kd=its':=by simpa using congrArg Array.toList d1
 subst this;exact r.inj r'
end
abbrev Cx.wish (X:Cx) (E:MR->OY->Prop):Cx:={X with xe:=E}
abbrev Cx.nox (X:Cx):Cx:=X.wish fun _ _=>False
theorem Cx.Ok.wish {X:Cx} (ok:X.Ok) (E:MR->OY->Prop):(X.wish E).Ok:=
 ⟨ok.mod,ok.kind,ok.glob,ok.blt,ok.above,ok.inj,ok.has,ok.cab,ok.hd,ok.frames,ok.stk,ok.exf,ok.bs,ok.bsz,ok.noex,ok.exfs,ok.funs,ok.frf⟩
def Cx.Ok.unwish (ok:(X.wish E).Ok):X.Ok:=
 ⟨ok.mod,ok.kind,ok.glob,ok.blt,ok.above,ok.inj,ok.has,ok.cab,ok.hd,ok.frames,ok.stk,ok.exf,ok.bs,ok.bsz,ok.noex,ok.exfs,ok.funs,ok.frf⟩
section
variable {X:Cx}{J':O4 (OZ×Obj)}{σ:St}{H:Hp}{s:OY}{E:MR->OY->Prop}
theorem Inv.wish (I:Inv X J' σ H s) (E:MR->OY->Prop):Inv (X.wish E) J' σ H s:=⟨I.ok.wish E,I.os,I.bare,I.base,I.loc,I.cell,I.free,I.freeC,I.pin,I.hok,I.len⟩
theorem Inv.unwish (I:Inv (X.wish E) J' σ H s):Inv X J' σ H s:=⟨I.ok.unwish,I.os,I.bare,I.base,I.loc,I.cell,I.free,I.freeC,I.pin,I.hok,I.len⟩
theorem SP.unwish {D:Ends}{f:Flow}{s':OY} (h:SP (X.wish E) J' D f s'):SP X J' D f s':=by
 cases f with
 |next=>obtain⟨σ',H',I,q⟩:=h;exact⟨σ',H',I.unwish,q⟩
 |brk=>obtain⟨σ',H',I,q⟩:=h;exact⟨σ',H',I.unwish,q⟩
 |cont=>obtain⟨σ',H',I,q⟩:=h;exact⟨σ',H',I.unwish,q⟩
 |ret u=>obtain⟨v,σ',H',I,r,q⟩:=h;exact⟨v,σ',H',I.unwish,r,q⟩
theorem PSs.nox {st:O4 O8}{t:TS} (h:PSs X.nox st t):PSs X st t:=fun J' s σ H D I hw=>
 Bm (h J' s σ H D (I.wish _) hw) (fun _ _ q=>q.unwish) fun _ _ z=>False.elim z
end
section
variable {X:Cx}{st:O8}{aJ:O4 O8}{t u:TS}{e:O5}{te:TE}{pos:Pos}
def xn:TS:=fun D σ H=>D.nx σ H
def xo (t u:TS):TS:=fun D σ H=>t (eTo D (u D)) σ H
def aS:PSs X [] xn:=fun _ _ σ H _ I h=>wpAny_execs_nil ⟨σ,H,I,h⟩
theorem aj (h1:PS X st t) (h2:PSs X aJ u):PSs X (st::aJ) (xo t u):=by
 intro J' s σ H D I h;refine wpAny_execs_cons (thn (h1 J' s σ H (eTo D (u D)) I h) fun f s1 q=> ?_);cases f with
 |next=>
  obtain⟨σ',H',I',q⟩:=q;exact h2 J' s1 σ' H' D I' q
 |ret v=>exact q
 |brk=>exact q
 |cont=>exact q
theorem ai (h1:PS X st t):PSs X [st] t:=by
 intro J' s σ H D I h;refine wpAny_execs_cons (thn (h1 J' s σ H D I h) fun f s1 q=> ?_);cases f with
 |next=>exact wpAny_execs_nil q
 |ret v=>exact q
 |brk=>exact q
 |cont=>exact q
theorem Inv.quiet {σ:St}(I:Inv X J' σ H s):interactive X.env=false:=by simp[interactive,I.ok.kind]
def xp (te:TE):TS:=fun D σ H=>te σ H fun _ H1=>D.nx σ H1
theorem aT (he:PE X e te) (hs:swapsWith e none pos.line X.env=pure false:=by rfl):PS X (.Expr e pos) (xp te):=by
 intro J' s σ H D I h;exact wpAny_Expr_any (thn (he J' s σ H _ I h) fun v s1 ⟨x,H1,I1,r1,q1⟩=>⟨σ,H1,I1,q1⟩) I.quiet hs
def xq (te:TE):TS:=fun D σ H=>te σ H D.rt
theorem ao (he:PE X e te):PS X (.Return (some e) pos) (xq te):=by
 intro J' s σ H D I h;exact wpAny_Return_some (thn (he J' s σ H _ I h) fun v s1 ⟨x,H1,I1,r1,q1⟩=>⟨x,σ,H1,I1,r1,q1⟩)
def xr (c:TT) (t u:TS):TS:=fun D σ H=>c σ H fun b H1=>if b=true then t D σ H1 else u D σ H1
theorem aU {a b:O4 O8}{tc:TT} (hc:PT X c tc) (ha:PSs X a t) (hb:PSs X b u):PS X (.If c a b pos) (xr tc t u):=by
 intro J' s σ H D I h;refine wpAny_If (thn (hc J' s σ H _ I h) fun d s1 ⟨H1,I1,q1⟩=> ?_);cases d with
 |true=>exact ha J' s1 σ H1 D I1 q1
 |false=>exact hb J' s1 σ H1 D I1 q1
def xt:TS:=fun _ _ _=>False
def jv:PS X st xt:=fun _ _ _ _ _ _ h=>h.elim
end
abbrev TG:=V->St->Hp->(St->Hp->Prop)->Prop
variable {g:TG}
abbrev TGs:=O4 V->St->Hp->(St->Hp->Prop)->Prop
def PG (X:Cx) (KQ:O5) (t:TG):Prop:=
 ∀(J':O4 (OZ×Obj)) (s:OY) (σ:St) (H:Hp) (v:V) (u:MR) (Q:St->Hp->Prop),Inv X J' σ H s->av v u->t v σ H Q->
  wpAny (model X.prog X.w) X.A (assign KQ X.env u) (fun _ s'=>∃σ' H',Inv X J' σ' H' s'/\Q σ' H') X.xe s
def PGs (X:Cx) (ts:O4 O5) (t:TGs):Prop:=
 ∀(J':O4 (OZ×Obj)) (s:OY) (σ:St) (H:Hp) (vs:O4 V) (us:O4 MR) (Q:St->Hp->Prop),Inv X J' σ H s->au vs us->t vs σ H Q->
  wpAny (model X.prog X.w) X.A (assignInOrder ((assignEach ts X.env).map (·.2)) us) (fun _ s'=>∃σ' H',Inv X J' σ' H' s'/\Q σ' H') X.xe s
abbrev iq:=V->V->V->Hp->(Hp->Prop)->Prop
def kZ (X:Cx) (t:iq):Prop:=
 ∀(J':O4 (OZ×Obj)) (s:OY) (σ:St) (H:Hp) (o i v:V) (ov iv u:MR) (Q:Hp->Prop),Inv X J' σ H s->av o ov->av i iv->av v u->t o i v H Q->
  wpAny (model X.prog X.w) X.A (setItem ov iv u) (fun _ s'=>∃H',Inv X J' σ H' s'/\Q H') X.xe s
abbrev TIp:=V->V->Hp->VK->Prop
def PIp (X:Cx) (op:Operator) (t:TIp):Prop:=
 ∀(J':O4 (OZ×Obj)) (s:OY) (σ:St) (H:Hp) (x y:V) (v u:MR) (Q:VK),Inv X J' σ H s->av x v->av y u->t x y H Q->
  wpAny (model X.prog X.w) X.A (inplaceOp op v u) (EP X J' σ Q) X.xe s
section
variable {X:Cx}{pos:Pos}
def bu (i:Nat):TG:=fun v σ H Q=>Q (σ.set i (some v)) H
theorem bm (hN:X.N.Nodup) (hi:X.N[i]? =some x) (hx:Loc X.env.scope x) (hf:X.fn x=true\/X.env.scope.names.lookup x=some .local:=by first|exact .inl rfl|exact .inr rfl|assumption):PG X (.Name x pos) (bu i):=by
 intro J' s σ H v u Q I r h;exact wpAny_assign_Name (jp I hN hi hx r (fun s' I'=>⟨_,H,I',h⟩) hf)
def fJ:TGs:=fun vs σ H Q=>vs=[]/\Q σ H
inductive gCons (t:TG) (u:TGs) (vs:List V) (σ:St) (H:Hp) (Q:(St->Hp->Prop)):Prop
 |mk v r:vs=v::r->(t v σ H fun σ' H'=>u r σ' H' Q)->gCons t u vs σ H Q
theorem b0:PGs X [] fJ:=by
 intro J' s σ H vs us Q I r h;obtain⟨e,h⟩:=h;subst e;cases r;exact assignInOrder_nil ⟨σ,H,I,h⟩
theorem aO {t:TG}{u:TGs} (h1:PG X e t) (h2:PGs X es u)
  (hs:(assignEach (e::es) X.env).map (·.2)=assign e X.env::(assignEach es X.env).map (·.2):=by rfl):PGs X (e::es) (gCons t u):=by
 intro J' s σ H vs us Q I r h;obtain⟨v,vr,e1,h⟩:=h;subst e1;cases r with
 |cons r rr=>
  rw[hs];refine assignInOrder_cons (thn (h1 J' s σ H _ _ _ I r h) fun _ s1 ⟨σ1,H1,I1,q1⟩=> ?_);exact h2 J' s1 σ1 H1 _ _ Q I1 rr q1
inductive gTup (K:W.Frag) (n:Nat) (t:TGs) (v:V) (σ:St) (H:Hp) (Q:(St->Hp->Prop)):Prop
 |mk a xs:v= .ref a->SqT K H a xs->xs.length=n->t xs σ H Q->gTup K n t v σ H Q
theorem cA {k:Nat}{t:TGs}(hc:X.calm=true) (h:PGs X es t)
  (hn:(assignEach es X.env).length=n:=by rfl) (Lm:(assignEach es X.env).findIdx? (·.1)=none:=by rfl):PG X (.Tuple es k pos) (gTup X.K n t):=by
 intro J' s σ H v u Q I r hw;obtain⟨a,xs,e1,hq,hl,hw⟩:=hw;subst e1;cases r;obtain⟨Kd,rv,ht,hz⟩:=I.tuple hq;refine assign_Tuple_tuple (I.ok.hd hc) ht (by simp[hn,<-hl,rv.length]) Lm fun h' hx=> ?_;have I1:Inv X J' σ H {s with heap:=h'}:=I.kept (t':=s.toks) fun b o e=>hx b o (AT (AM e)) e;exact h J' _ σ H xs _ Q I1 (by simpa using rv) hw
def xu (to ti:TE) (t:iq):TG:=fun v σ H Q=>to σ H fun o H1=>ti σ H1 fun i H2=>t o i v H2 fun H3=>Q σ H3
theorem qf {o i:Expr}{ti:TE}{t:iq} (ho:PE X o to) (hi:PE X i ti) (hs:kZ X t)
  (ha:∀v,assign (.Subscript o i pos) X.env v=(do
   let ov<-holding [v] (eval o X.env)
   let iv<-holding [v,ov] (eval i X.env)
   standAt pos
   holding [v,ov,iv] (setItem ov iv v)
   release [v,ov,iv] []):=by intro _;rfl):PG X (.Subscript o i pos) (xu to ti t):=by
 intro J' s σ H v u Q I r h;rw[ha];refine A0 (Az (thn (ho J' s σ H _ I h) fun ov s1 ⟨x,H1,I1,r1,q1⟩=> ?_));refine A0 (Az (thn (hi J' s1 σ H1 _ I1 q1) fun iv s2 ⟨y,H2,I2,r2,q2⟩=> ?_));refine A0 (wpAny_standAt (A0 (Az (thn (hs J' s2 σ H2 x y v ov iv u _ I2 r1 r2 r q2) fun _ s3 ⟨H3,I3,q3⟩=> ?_))));exact wpAny_release ⟨σ,H3,I3,q3⟩
def ir (te:TE) (g:TG):TS:=fun D σ H=>te σ H fun x H1=>g x σ H1 D.nx
theorem k7 (he:PE X e te) (hg:PG X tg g) (hs:swapsWithSole [tg] e pos.line X.env=pure false:=by rfl) (hw:swappedStores [tg] e X.env=pure none:=by rfl)
  (h1:(assignEach [tg] X.env).map (·.2)=[assign tg X.env]:=by rfl):PS X (.Assign [tg] e pos) (ir te g):=by
 intro J' s σ H D I h;refine wpAny_Assign_stores (thn (he J' s σ H _ I h) fun v s1 ⟨x,H1,I1,r1,q1⟩=> ?_) hs hw;rw[h1];exact thn (hg J' s1 σ H1 x v _ I1 r1 q1) fun _ s2 q=>q
theorem xv {Kv:Pos} (hN:X.N.Nodup) (hi:X.N[i]? =some x) (hx:Loc X.env.scope x) (he:PE X e te) (hs:swapsWith e (some (.Name x Kv)) pos.line X.env=pure false:=by rfl) (hf:X.fn x=true\/X.env.scope.names.lookup x=some .local:=by first|exact .inl rfl|exact .inr rfl|assumption):
  PS X (.Assign [.Name x Kv] e pos) (ir te (bu i)):=by
 intro J' s σ H D I h;refine wpAny_Assign_Name (thn (he J' s σ H _ I h) fun v s1 ⟨y,H1,I1,r1,q1⟩=> ?_) hs;exact jp I1 hN hi hx r1 (fun s2 I2=>⟨_,H1,I2,q1⟩) hf
inductive tAug (i:Nat) (te:TE) (ti:TIp) (D:Ends) (σ:St) (H:Hp):Prop
 |mk x:σ[i]? =some (some x)->(te σ H fun y H1=>ti x y H1 fun z H2=>D.nx (σ.set i (some z)) H2)->tAug i te ti D σ H
theorem fK {op:Operator}{ti:TIp}{Kv:Pos} (hN:X.N.Nodup) (hi:X.N[i]? =some x) (hx:Loc X.env.scope x) (he:PE X e te) (ho:PIp X op ti) (hf:X.fn x=true\/X.env.scope.names.lookup x=some .local:=by first|exact .inl rfl|exact .inr rfl|assumption):
  PS X (.AugAssign (.Name x Kv) op e pos) (tAug i te ti):=by
 intro J' s σ H D I h;obtain⟨v,e1,h⟩:=h;obtain⟨m,hn,hl⟩:=I.loc;have vis:Vis X.env.scope x:=by rcases hx with k|k;exact .inl k;exact .inr (.inl k)
 obtain⟨u,r,l⟩:=hl i x v hi e1 vis;refine wpAny_AugAssign_Name ?_;have go:wpAny (model X.prog X.w) X.A (eval e X.env) (fun w s₂=>wpAny (model X.prog X.w) X.A (inplaceOp op u w) (fun r s₃=>wpAny (model X.prog X.w) X.A (storeName X.env x r) (fun _=>SP X J' D .next) X.xe s₃) X.xe s₂) X.xe s:=by
  refine thn (he J' s σ H _ I h) fun w s1 ⟨y,H1,I1,r1,q1⟩=> ?_;refine thn (ho J' s1 σ H1 v y u w _ I1 r r1 q1) fun z s2 ⟨zv,H2,I2,r2,q2⟩=> ?_;exact jp I2 hN hi hx r2 (fun s3 I3=>⟨_,H2,I3,q2⟩) hf
 rcases l with⟨hk,hm⟩|⟨hk,c,hc,KD⟩
 .exact wpAny_loadName_local I.ok.kind hk hn hm go
 .rcases hk with hk|hk
  .exact wpAny_loadName_cell I.ok.kind hk hc KD go
  .rcases hx with k|k
   .have:X.env.scope.names.lookup x=some .free:=hk;rw[k] at this;cases this
   .have:X.env.scope.names.lookup x=some .free:=hk;rw[k] at this;cases this
def xw (to ti te:TE) (Np:V->V->Hp->VK->Prop) (tip:TIp) (Nq:iq):TS:=fun D σ H=>to σ H fun o H1=>ti σ H1 fun i H2=>Np o i H2 fun x H3=>te σ H3 fun y H4=>tip x y H4 fun z H5=>Nq o i z H5 fun H6=>D.nx σ H6
def qg (X:Cx) (t:V->V->Hp->VK->Prop):Prop:=
 ∀(J':O4 (OZ×Obj)) (s:OY) (σ:St) (H:Hp) (o i:V) (ov iv:MR) (Q:VK),Inv X J' σ H s->av o ov->av i iv->t o i H Q->
  wpAny (model X.prog X.w) X.A (getItem ov iv) (EP X J' σ Q) X.xe s
theorem qh {o i:O5}{ti:TE}{Np:V->V->Hp->VK->Prop}{tip:TIp}{Nq:iq}{op:Operator}{Ln:Pos} (ho:PE X o to) (hi:PE X i ti) (hg:qg X Np) (he:PE X e te) (hp:PIp X op tip) (hs:kZ X Nq)
  (ha:∀ov iv new,augStore i ov iv new=(do holding [new,ov,iv] (setItem ov iv new);release [new,ov,iv] [];pure .next):=by intros;rfl):PS X (.AugAssign (.Subscript o i Ln) op e pos) (xw to ti te Np tip Nq):=by
 intro J' s σ H D I h;refine wpAny_AugAssign_SubscriptAny (thn (ho J' s σ H _ I h) fun ov s1 ⟨x1,H1,I1,r1,q1⟩=> ?_) ha;refine thn (hi J' s1 σ H1 _ I1 q1) fun iv s2 ⟨x2,H2,I2,r2,q2⟩=> ?_;refine thn (hg J' s2 σ H2 x1 x2 ov iv _ I2 r1 r2 q2) fun LM s3 ⟨x3,H3,I3,r3,q3⟩=> ?_;refine thn (he J' s3 σ H3 _ I3 q3) fun v s4 ⟨x4,H4,I4,r4,q4⟩=> ?_;refine thn (hp J' s4 σ H4 x3 x4 LM v _ I4 r3 r4 q4) fun new s5 ⟨x5,H5,I5,r5,q5⟩=> ?_;exact thn (hs J' s5 σ H5 x1 x2 x5 ov iv new _ I5 r1 r2 r5 q5) fun _ s6 ⟨H6,I6,q6⟩=>⟨σ,H6,I6,q6⟩
inductive ipI (f:Int->Int->Int) (x:V) (y:V) (H:Hp) (Q:VK):Prop
 |mk i j:x= .int i->y= .int j->Q (.int (f i j)) H->ipI f x y H Q
theorem iu:PIp X .Add (ipI fun i j=>i+j):=by
 intro J' s σ H x y v u Q I r1 r2 h;obtain⟨i,j,e1,e2,q⟩:=h;subst e1;subst e2;obtain⟨t,rfl⟩:=r1;obtain⟨t',rfl⟩:=r2;exact iadd_int ⟨.int _,H,I.tok _,⟨_,rfl⟩,q⟩
theorem xx:PIp X .Sub (ipI fun i j=>i-j):=by
 intro J' s σ H x y v u Q I r1 r2 h;obtain⟨i,j,e1,e2,q⟩:=h;subst e1;subst e2;obtain⟨t,rfl⟩:=r1;obtain⟨t',rfl⟩:=r2;exact isub_int ⟨.int _,H,I.tok _,⟨_,rfl⟩,q⟩
end
structure It where
 go:Nat->Hp->Prop
 yld:Nat->Hp->V->Hp->Prop
 stop:Nat->Hp->Prop
def cm (X:Cx) (J':O4 (OZ×Obj)) (H:Hp) (b:OZ):Prop:=
 H b=none/\b≠X.env.locals/\b∉X.fs/\(b∈X.ex\/X.s₀.heap.objs.size<=b)/\(∀x c,X.env.cells.lookup x=some c->c≠b)/\∀p∈X.pn++J',p.1≠b
theorem Inv.fpOk {σ:St}{H':Hp}(I:Inv X J' σ H s) (hb:s.heap.objs.size<=b) (hn:H' b=none):cm X J' H' b:=by
 refine⟨hn,Be (Ap I.lt hb),I.nofs hb, .inr (B7 I.sz hb),fun x c e z=> ?_,fun p hp z=> ?_⟩
 .obtain⟨v,q⟩:=I.cell x c e;exact absurd (Ap q.lt (by rw[z];exact hb)) (C6 _)
 .exact absurd (Ap (AM (I.pin p hp).1) (by rw[z];exact hb)) (C6 _)
structure Turn (P:O0) (w:O2) (K:W.Frag) (tg:O5) (J:It) (fp:O4 OZ) (it:OZ) (tn:Nat->O6->Prop):Prop where
 mem:it∈fp
 obj:∀i h,tn i h->∀b∈fp,∃o,h.get? b=some o/\∀v,o.data≠ .cell v
 keep:∀i h h',tn i h->(∀b∈fp,∀o,h.get? b=some o->h'.get? b=some o)->tn i h'
 item:∀(X:Cx),X.prog=P->X.w=w->X.K=K->X.calm=true->∀(i:Nat) (J':List (Addr×Obj)) (s:Shared) (σ:St) (H:Hp) (E:Value->Shared->Prop),Inv X J' σ H s->(∀b∈fp,cm X J' H b)->tn i s.heap->J.go i H->
  wpAny (model P w) X.A (pyNext (.ref it)) (fun r s1=>∃u,r=some u/\
   wpAny (model P w) X.A (letOwnedTupleGo tg (.ref it) u) (fun _ s2=>∃x H',Inv X J' σ H' s2/\av x u/\J.yld i H x H'/\tn (i+1) s2.heap/\∀b∈fp,H' b=none) E s1) E s
 done:∀(X:Cx),X.prog=P->X.w=w->X.K=K->X.calm=true->∀(i:Nat) (J':List (Addr×Obj)) (s:Shared) (σ:St) (H:Hp) (E:Value->Shared->Prop),Inv X J' σ H s->(∀b∈fp,cm X J' H b)->tn i s.heap->J.stop i H->
  wpAny (model P w) X.A (pyNext (.ref it)) (fun r s1=>r=none/\Inv X J' σ H s1) E s
 self:∀(A:Around) (i:Nat) (s:Shared) (Q:Value->Shared->Prop) (E:Value->Shared->Prop),tn i s.heap->Q (.ref it) s->wpAny (model P w) A (pyIter (.ref it)) Q E s
abbrev TI:=St->Hp->(It->Hp->Prop)->Prop
def PIE (X:Cx) (J':O4 (OZ×Obj)) (σ:St) (tg:O5) (R:It->Hp->Prop) (itv:MR) (s2:OY):Prop:=
 ∃(it:OZ) (fp:O4 OZ) (tn:Nat->O6->Prop) (J:It) (H':Hp),itv= .ref it/\Inv X J' σ H' s2/\Turn X.prog X.w X.K tg J fp it tn/\tn 0 s2.heap/\(∀b∈fp,cm X J' H' b)/\R J H'
def PI (X:Cx) (tg aE:O5) (wi:TI):Prop:=
 ∀(J':O4 (OZ×Obj)) (s:OY) (σ:St) (H:Hp) (R:It->Hp->Prop),Inv X J' σ H s->wi σ H R->
  wpAny (model X.prog X.w) X.A (eval aE X.env) (fun v s1=>wpAny (model X.prog X.w) X.A (pyIter v) (PIE X J' σ tg R) X.xe s1) X.xe s
theorem go_of {E : MR -> OY -> Prop} {n : String} {vs : Array MR} {Q : Unit -> OY -> Prop} (ho : s.heap.get? it = some o) (hc : o.cls = .type n) (hd : o.data = .fields vs)
    (hn : ["enumerate", "zip", "dict_itemiterator", "dict_reverseitemiterator", "odict_iterator", "itertools.zip_longest", "itertools.pairwise"].contains n = false) (hQ : Q () s) : wpAny M A (letOwnedTupleGo tg (.ref it) u) Q E s := by
  unfold letOwnedTupleGo;cases tg <;> first
    | exact A3 hQ
    | (cases u <;> first
        | exact A3 hQ
        | (refine A0 (wpAny_load ho ?_)
           rw[hc, hd];show wpAny M A (if (["enumerate", "zip", "dict_itemiterator", "dict_reverseitemiterator", "odict_iterator", "itertools.zip_longest", "itertools.pairwise"].contains n && vs[0]? == some (rawInt _)) = true then _ else _) Q E s;rw[A6 (by intro h; rw[hn, Cw] at h; cases h)];exact A3 hQ))
def Itl (K:W.Frag) (a:OZ):It:=
 ⟨fun i H=>∃xs x,SqL K H a xs/\xs[i]? =some x,fun i H x H'=>H'=H/\∀xs,SqL K H a xs->xs[i]? =some x,fun i H=>∃xs,SqL K H a xs/\xs.length<=i⟩
def Itt (K:W.Frag) (a:OZ):It:=
 ⟨fun i H=>∃xs x,SqT K H a xs/\xs[i]? =some x,fun i H x H'=>H'=H/\∀xs,SqT K H a xs->xs[i]? =some x,fun i H=>∃xs,SqT K H a xs/\xs.length<=i⟩
def Itr (lo:Int) (n:Nat):It:=⟨fun i _=>i<n,fun i H x H'=>H'=H/\x= .int (lo+i),fun i _=>n<=i⟩
theorem xz (a it:OZ):Turn P w K tg (Itl K a) [it] it (fun i h=>h.IsListIter it a i) where
 mem:=by simp
 obj:=fun i h st b hb=>by
  have e:b=it:=by simpa using hb
  subst e;obtain⟨o,e,c,d⟩:=st;exact⟨o,e,fun v z=>by rw[d] at z;cases z⟩
 keep:=fun i h h' st k=>st.at fun o e=>k it (by simp) o e
 item:=by
  intro X hP hw hK hc i J' s σ H E I hf st hg;subst hP hw hK;obtain⟨xs,x,hq,hx⟩:=hg;obtain⟨Kd,rv,p,hz⟩:=I.list hq;obtain⟨u,hu,ru⟩:=rv.get hx;obtain⟨f0,f1,f2,f3,f4,f5⟩:=hf it (by simp);refine wpAny_pyNext_list_item st p.isList (x:=u) (by simpa using hu) fun h' Km sb=> ?_;have I1:Inv X J' σ H {s with heap:=h'}:=I.turned (t':=s.toks) (fun b o hb e=>(sb.2 b hb).trans e) f0 f1 f3 f4 f5;obtain⟨o,e,c,d⟩:=id Km;exact⟨u,rfl,go_of (s:={s with heap:=h'}) e c d (by decide) ⟨x,H,I1,ru,⟨rfl,fun ys hy=>by rw[I.list_inj hy hq];exact hx⟩,Km,fun b hb=>(hf b hb).1⟩⟩
 done:=by
  intro X hP hw hK hc i J' s σ H E I hf st hg;subst hP hw hK;obtain⟨xs,hq,hx⟩:=hg;obtain⟨Kd,rv,p,hz⟩:=I.list hq;obtain⟨f0,f1,f2,f3,f4,f5⟩:=hf it (by simp);have hl:=rv.length;exact wpAny_pyNext_list_end (I.ok.hd hc) st p.isList (by simp;lia) fun h' eb=>⟨rfl,I.turned (t':=s.toks) (fun b o hb e=>eb b o hb e) f0 f1 f3 f4 f5⟩
 self:=fun _ _ _ _ _ st h=>wpAny_pyIter_listiter st h
theorem xA (a it:OZ):Turn P w K tg (Itt K a) [it] it (fun i h=>h.IsTupleIter it a i) where
 mem:=by simp
 obj:=fun i h st b hb=>by
  have e:b=it:=by simpa using hb
  subst e;obtain⟨o,e,c,d⟩:=st;exact⟨o,e,fun v z=>by rw[d] at z;cases z⟩
 keep:=fun i h h' st k=>st.at fun o e=>k it (by simp) o e
 item:=by
  intro X hP hw hK hc i J' s σ H E I hf st hg;subst hP hw hK;obtain⟨xs,x,hq,hx⟩:=hg;obtain⟨Kd,rv,p,hz⟩:=I.tuple hq;obtain⟨u,hu,ru⟩:=rv.get hx;obtain⟨f0,f1,f2,f3,f4,f5⟩:=hf it (by simp);refine wpAny_pyNext_tuple_item st (show s.heap.IsTuple a Kd.toArray from p) (x:=u) (by simpa using hu) fun h' Km sb=> ?_;have I1:Inv X J' σ H {s with heap:=h'}:=I.turned (t':=s.toks) (fun b o hb e=>(sb.2 b hb).trans e) f0 f1 f3 f4 f5;obtain⟨o,e,c,d⟩:=id Km;exact⟨u,rfl,go_of (s:={s with heap:=h'}) e c d (by decide) ⟨x,H,I1,ru,⟨rfl,fun ys hy=>by rw[I.tuple_inj hy hq];exact hx⟩,Km,fun b hb=>(hf b hb).1⟩⟩
 done:=by
  intro X hP hw hK hc i J' s σ H E I hf st hg;subst hP hw hK;obtain⟨xs,hq,hx⟩:=hg;obtain⟨Kd,rv,p,hz⟩:=I.tuple hq;obtain⟨f0,f1,f2,f3,f4,f5⟩:=hf it (by simp);have hl:=rv.length;exact wpAny_pyNext_tuple_end (I.ok.hd hc) st (show s.heap.IsTuple a Kd.toArray from p) (by simp;lia) fun h' eb=>⟨rfl,I.turned (t':=s.toks) (fun b o hb e=>eb b o hb e) f0 f1 f3 f4 f5⟩
 self:=fun _ _ _ _ _ st h=>wpAny_pyIter_tupleiter st h
theorem xB (it:OZ) (lo:Int) (n:Nat):Turn P w K tg (Itr lo n) [it] it (fun i h=>IsRangeIter h it (lo+(i:Nat)*1) ((n:Int)-(i:Nat)) 1) where
 mem:=by simp
 obj:=fun i h st b hb=>by
  have e:b=it:=by simpa using hb
  subst e;exact⟨_,st,fun v z=>by
   have z':Data.fields _=Data.cell v:=z;cases z'⟩
 keep:=fun i h h' st k=>k it (by simp) _ st
 item:=by
  intro X hP hw hK hc i J' s σ H E I hf st hg;subst hP hw hK;obtain⟨f0,f1,f2,f3,f4,f5⟩:=hf it (by simp);have Wq:=Walks.range (prog:=X.prog) (w:=X.w) (I.ok.hd hc) it lo 1 n;refine Wq.item i s _ _ hg st fun v h' tk hv Km kk=> ?_;obtain⟨t,rfl⟩:=hv;have I1:Inv X J' σ H {s with heap:=h',toks:=tk}:=I.turned (fun b o hb e=>kk b o (by simpa using hb) e) f0 f1 f3 f4 f5;refine⟨_,rfl,go_of (s:={s with heap:=h',toks:=tk}) (n:="range_iterator") Km rfl rfl (by decide) ⟨.int (lo+i),H,I1,⟨t, ?_⟩,⟨rfl,rfl⟩,Km,fun b hb=>(hf b hb).1⟩⟩;rw[Int.mul_one]
 done:=by
  intro X hP hw hK hc i J' s σ H E I hf st hg;subst hP hw hK;obtain⟨f0,f1,f2,f3,f4,f5⟩:=hf it (by simp);exact wpAny_pyNext_range_end (I.ok.hd hc) st (by have:n<=i:=hg;lia) fun h' eb=>⟨rfl,I.turned (t':=s.toks) (fun b o hb e=>eb b o hb e) f0 f1 f3 f4 f5⟩
 self:=fun _ _ _ _ _ st h=>wpAny_pyIter_rangeiter st h
section
variable {X:Cx}{tg:O5}
inductive iList_ (K:W.Frag) (R:(It->Hp->Prop)) (x:V) (H1:Hp):Prop
 |mk a:x= .ref a->((∃xs,SqL K H1 a xs))->R (Itl K a) H1->iList_ K R x H1
def xC (K:W.Frag) (tl:TE):TI:=fun σ H R=>tl σ H fun x H1=>iList_ K R x H1
inductive iTup_ (K:W.Frag) (R:(It->Hp->Prop)) (x:V) (H1:Hp):Prop
 |mk a:x= .ref a->((∃xs,SqT K H1 a xs))->R (Itt K a) H1->iTup_ K R x H1
def xD (K:W.Frag) (tl:TE):TI:=fun σ H R=>tl σ H fun x H1=>iTup_ K R x H1
theorem aY (hl:PE X l tl):PI X tg l (xC X.K tl):=by
 intro J' s σ H R I h;refine thn (hl J' s σ H _ I h) fun v s1 ⟨x,H1,I1,r1,q1⟩=> ?_;obtain⟨a,e,⟨xs,hq⟩,q⟩:=q1;subst e;cases r1;obtain⟨Kd,rv,p,hz⟩:=I1.list hq;refine wpAny_pyIter_list p.isList ?_;refine⟨s1.heap.objs.size,[s1.heap.objs.size],_,_,H1,rfl,I1.kept (t':=s1.toks) fun b o e=>A4 _ e,xz a _,⟨_,AI _ rfl,rfl,rfl⟩,fun b hb=> ?_,q⟩;have e:b=s1.heap.objs.size:=by simpa using hb
 subst e;exact I1.fpOk (AB _) (I1.hok.fresh (AB _))
theorem xE (hl:PE X l tl):PI X tg l (xD X.K tl):=by
 intro J' s σ H R I h;refine thn (hl J' s σ H _ I h) fun v s1 ⟨x,H1,I1,r1,q1⟩=> ?_;obtain⟨a,e,⟨xs,hq⟩,q⟩:=q1;subst e;cases r1;obtain⟨Kd,rv,p,hz⟩:=I1.tuple hq;refine D0 (show s1.heap.IsTuple a Kd.toArray from p) ?_;refine⟨s1.heap.objs.size,[s1.heap.objs.size],_,_,H1,rfl,I1.kept (t':=s1.toks) fun b o e=>A4 _ e,xA a _,⟨_,AI _ rfl,rfl,rfl⟩,fun b hb=> ?_,q⟩;have e:b=s1.heap.objs.size:=by simpa using hb
 subst e;exact I1.fpOk (AB _) (I1.hok.fresh (AB _))
theorem qi {σ:St}{R:It->Hp->Prop}{hi:Int}{t u v:Tok}{tk:Nat} (I:Inv X J' σ H s) (h1: -(2^62)<=lo) (h2:lo<2^62) (h3: -(2^62)<=hi) (h4:hi<2^62)
  (q:R (Itr lo (hi-lo).toNat) H):wpAny (model X.prog X.w) X.A (pyIter (.ref s.heap.objs.size)) (PIE X J' σ tg R) E {s with heap:=s.heap.push {cls:= .type "range",data:= .fields #[.int lo t, .int hi u, .int 1 v]},toks:=tk}:=by
 refine wpAny_pyIter_range (IsRange.new ..) (small_one h1 h2 h3 h4) ?_;have I1:Inv X J' σ H {s with heap:=s.heap.push {cls:= .type "range",data:= .fields #[.int lo t, .int hi u, .int 1 v]},toks:=tk}:=I.kept fun b o e=>A4 _ e;refine⟨(s.heap.push {cls:= .type "range",data:= .fields #[.int lo t, .int hi u, .int 1 v]}).objs.size,[(s.heap.push {cls:= .type "range",data:= .fields #[.int lo t, .int hi u, .int 1 v]}).objs.size],_,_,H,rfl,
  I1.kept (t':=tk) fun b o e=>A4 _ e,xB _ lo (hi-lo).toNat, ?_,fun b hb=> ?_,q⟩
 .have e1:lo+((0:Nat):Int)*1=lo:=by simp
  have e2:(((hi-lo).toNat:Nat):Int)-((0:Nat):Int)=Builtin.Range.rangeSize lo hi 1:=by rw[rangeSize_one];split<;>lia
  show IsRangeIter _ _ (lo+((0:Nat):Int)*1) ((((hi-lo).toNat:Nat):Int)-((0:Nat):Int)) 1;rw[e1,e2];exact AI _ rfl
 .have e:b=(s.heap.push {cls:= .type "range",data:= .fields #[.int lo t, .int hi u, .int 1 v]}).objs.size:=by simpa using hb
  subst e;exact I1.fpOk (AB _) (I1.hok.fresh (AB _))
inductive iRng1_ (R:(It->Hp->Prop)) (vs:List V) (H1:Hp):Prop
 |mk (j:Int):vs=[.int j]->-(2^62)<=j->j<2^62->R (Itr 0 j.toNat) H1->iRng1_ R vs H1
def xF (ta:TA):TI:=fun σ H R=>ta σ H fun vs H1=>iRng1_ R vs H1
inductive iRng2_ (R:(It->Hp->Prop)) (vs:List V) (H1:Hp):Prop
 |mk (i j:Int):vs=[.int i, .int j]->(-(2^62)<=i/\i<2^62/\-(2^62)<=j/\j<2^62)->R (Itr i (j-i).toNat) H1->iRng2_ R vs H1
def xG (ta:TA):TI:=fun σ H R=>ta σ H fun vs H1=>iRng2_ R vs H1
theorem fq {a:O5}{p pos:Pos} (hg:Gl X "range") (hm:X.mg "range"=none) (ha:PA X [a] ta) (hs:starEach [a] X.env=[(false,eval a X.env)]:=by rfl):PI X tg (.Call (.Name "range" p) [a] [] pos) (xF ta):=by
 intro J' s σ H R I h;refine Call_ (dg I hg hm boot_range (BH (thn (ha pos J' s σ H _ I h) fun us s1 ⟨vs,H1,I1,r1,q1⟩=> ?_) hs rfl));obtain⟨j,e,q1,q2,q⟩:=q1;subst e;cases r1 with
 |cons r rr=>
  cases rr;obtain⟨t,rfl⟩:=r;exact call_range_1 (qi I1 (by lia) (by lia) q1 q2 (by simpa using q))
theorem cS {a b:O5}{p pos:Pos} (hg:Gl X "range") (hm:X.mg "range"=none) (ha:PA X [a,b] ta) (hs:starEach [a,b] X.env=[(false,eval a X.env),(false,eval b X.env)]:=by rfl) (hs2:starEach [b] X.env=[(false,eval b X.env)]:=by rfl):
  PI X tg (.Call (.Name "range" p) [a,b] [] pos) (xG ta):=by
 intro J' s σ H R I h;refine Call_ (dg I hg hm boot_range (BH (thn (ha pos J' s σ H _ I h) fun us s1 ⟨vs,H1,I1,r1,q1⟩=> ?_) (by rw[hs,hs2]) (by rw[hs2];rfl)));obtain⟨i,j,e,⟨q1,q2,q3,q4⟩,q⟩:=q1;subst e;cases r1 with
 |cons r rr=>
  cases rr with
  |cons r' rr=>
   cases rr;obtain⟨t,rfl⟩:=r;obtain⟨t',rfl⟩:=r';exact call_range_2 (qi I1 q1 q2 q3 q4 q)
def xH (wi:TI) (g:TG) (tb:TS):TS:=fun D σ H=>wi σ H fun J H1=>∃Wq:Nat->Nat->St->Hp->Prop,(∃m,Wq 0 m σ H1)/\∀i m σ H,Wq i m σ H->
 (J.stop i H/\D.nx σ H)\/(J.go i H/\∃N:St->Hp->Prop,(∀σ' H',N σ' H'->∃m',m'<m/\Wq (i+1) m' σ' H')/\∀x H',J.yld i H x H'->g x σ H' fun σ2 H2=>tb (eLp D (N)) σ2 H2)
def iw (fp:O4 OZ) (h:O6):O4 (OZ×Obj):=fp.filterMap fun b=>(h.get? b).map fun o=>(b,o)
theorem jw (hb:b∈fp) (e:h.get? b=some o):(b,o)∈iw fp h:=List.mem_filterMap.mpr ⟨b,hb,by rw[e];rfl⟩
theorem xI {p:OZ×Obj} (hp:p∈iw fp h):p.1∈fp/\h.get? p.1=some p.2:=by
 obtain⟨b,hb,e⟩:=List.mem_filterMap.mp hp;cases q:h.get? b with
 |none=>rw[q] at e;cases e
 |some o=>
  rw[q] at e;have e':(b,o)=p:=Ao e;subst e';exact⟨hb,q⟩
theorem Inv.pinned {σ:St}(I:Inv X J' σ H s) (hf:∀b∈fp,cm X J' H b) (ho:∀b∈fp,∃o,s.heap.get? b=some o/\∀v,o.data≠ .cell v):Inv X (J'++iw fp s.heap) σ H s:=
 I.pins_of fun p hp=>(BI.mp hp).elim (fun z=>I.pin p (Al _ z)) fun z=>by
  obtain⟨hb,e⟩:=xI z;obtain⟨f0,f1,f2,_⟩:=hf p.1 hb;obtain⟨o,e',d⟩:=ho p.1 hb;rw[e] at e';cases e';exact⟨e,f0,f1,f2,d⟩
def Inv.unpinned {pl:O4 (OZ×Obj)}{σ:St}(I:Inv X (J'++pl) σ H s):Inv X J' σ H s:=I.pins_of fun p hp=>I.pin p (Al _ (Bx _ hp))
theorem aL {aE:O5}{wi:TI}{pos:Pos} (hp:PassesOwn (model X.prog X.w) X.A X.env X.xe) (hc:X.calm=true) (hi:PI X tg aE wi) (hg:PG X tg g) (hb:PSs X body tb)
  (hs:∀x,foldedSetIterable aE X.env x=pure x:=by intro _;rfl):PS X (.For tg aE body [] pos) (xH wi g tb):=by
 intro J' s σ H D I h;refine wpAny_For (thn (hi J' s σ H _ I h) fun v s1 h1=>thn h1 fun itv s2 h2=> ?_) hs;obtain⟨it,fp,tn,J,H2,e,I2,T,Lo,f2,Wq,⟨m0,w0⟩,turn⟩:=h2;subst e;have L9:∀{H':Hp},(∀b∈fp,H' b=none)->∀b∈fp,cm X J' H' b:=fun hn b hb=>⟨hn b hb,(f2 b hb).2⟩;refine codeAny_forLoop_any (fun n s'=>∃i σ' H',Inv X J' σ' H' s'/\tn i s'.heap/\(∀b∈fp,H' b=none)/\Wq i n σ' H') ?_ m0 ⟨0,σ,H2,I2,Lo,fun b hb=>(f2 b hb).1,w0⟩;rintro n s3 ⟨i,σ3,H3,I3,st3,fr3,w3⟩;rcases turn i n σ3 H3 w3 with⟨stop,qn⟩|⟨go,N,hN,step⟩
 .refine DU hp (thn (T.done X rfl rfl rfl hc i J' s3 σ3 H3 X.xe I3 (L9 fr3) st3 stop) fun r s4 ⟨hr,I4⟩=> ?_);subst hr;exact wpAny_execs_nil ⟨σ3,H3,I4,qn⟩
 .refine DU hp (thn (T.item X rfl rfl rfl hc i J' s3 σ3 H3 X.xe I3 (L9 fr3) st3 go) fun r s4 ⟨u,hr,h4⟩=> ?_);subst hr;refine DU hp (thn h4 fun _ s5 ⟨x,H5,I5,r5,y5,Nr,fr5⟩=> ?_);have I5':=I5.pinned (L9 fr5) (T.obj _ _ Nr);refine DU hp (thn (hg _ s5 σ3 H5 x u _ I5' r5 (step x H5 y5)) fun _ s6 ⟨σ6,H6,I6,q6⟩=> ?_);refine DU hp (thn (hb _ s6 σ6 H6 _ I6 q6) fun f s7 q7=> ?_);have again:∀{σ7:St}{H7:Hp},Inv X (J'++iw fp s5.heap) σ7 H7 s7->N σ7 H7->∃m,m<n/\∃i σ' H',Inv X J' σ' H' s7/\tn i s7.heap/\(∀b∈fp,H' b=none)/\Wq i m σ' H':=fun{σ7 H7} I7 n7=>by
   obtain⟨m',hm,w7⟩:=hN σ7 H7 n7;refine⟨m',hm,i+1,σ7,H7,I7.unpinned,T.keep _ _ _ Nr fun b hb o e=>(I7.pin (b,o) (Al _ (Al _ (jw hb e)))).1,fun b hb=> ?_,w7⟩;obtain⟨o,e,d⟩:=T.obj _ _ Nr b hb;exact(I7.pin (b,o) (Al _ (Al _ (jw hb e)))).2.1
  cases f with
  |next=>obtain⟨σ7,H7,I7,n7⟩:=q7;exact again I7 n7
  |cont=>obtain⟨σ7,H7,I7,n7⟩:=q7;exact again I7 n7
  |brk=>obtain⟨σ7,H7,I7,q7⟩:=q7;exact⟨σ7,H7,I7.unpinned,q7⟩
  |ret v=>obtain⟨x7,σ7,H7,I7,r7,q7⟩:=q7;exact⟨x7,σ7,H7,I7.unpinned,r7,q7⟩
end
theorem bP {D:Ends}{σ:St}(Pv:Nat->St->Hp->Prop) (h0:Pv 0 σ H) (hl:∀i σ H,i<=xs.length->Pv i σ H->SqL K H a xs)
  (hs:∀i x σ H,xs[i]? =some x->Pv i σ H->g x σ H fun σ2 H2=>tb (eLp D (Pv (i+1))) σ2 H2) (hd:∀σ H,Pv xs.length σ H->D.nx σ H):
  ∃Wq:Nat->Nat->St->Hp->Prop,(∃m,Wq 0 m σ H)/\∀i m σ H,Wq i m σ H->
   ((Itl K a).stop i H/\D.nx σ H)\/((Itl K a).go i H/\∃N:St->Hp->Prop,(∀σ' H',N σ' H'->∃m',m'<m/\Wq (i+1) m' σ' H')/\∀x H',(Itl K a).yld i H x H'->g x σ H' fun σ2 H2=>tb (eLp D (N)) σ2 H2):=by
 refine⟨fun i m σ H=>m=xs.length-i/\i<=xs.length/\Pv i σ H,⟨xs.length,by simp,AQ _,h0⟩, ?_⟩;rintro i m σ H ⟨rfl,hi,p⟩;have q:=hl i σ H hi p;by_cases Kf:i<xs.length
 .refine .inr ⟨⟨xs,xs[i],q,by simp[Kf]⟩,Pv (i+1),fun σ' H' p'=>⟨xs.length-(i+1),by lia,rfl,Kf,p'⟩,fun x H' y=> ?_⟩;obtain⟨e,y⟩:=y;subst e;exact hs i x σ _ (y xs q) p
 .have e:i=xs.length:=by lia
  subst e;exact .inl ⟨⟨xs,q,AB _⟩,hd σ H p⟩
theorem xJ {D:Ends}{σ:St}(Pv:Nat->St->Hp->Prop) (h0:Pv 0 σ H) (hl:∀i σ H,i<=xs.length->Pv i σ H->SqT K H a xs)
  (hs:∀i x σ H,xs[i]? =some x->Pv i σ H->g x σ H fun σ2 H2=>tb (eLp D (Pv (i+1))) σ2 H2) (hd:∀σ H,Pv xs.length σ H->D.nx σ H):
  ∃Wq:Nat->Nat->St->Hp->Prop,(∃m,Wq 0 m σ H)/\∀i m σ H,Wq i m σ H->
   ((Itt K a).stop i H/\D.nx σ H)\/((Itt K a).go i H/\∃N:St->Hp->Prop,(∀σ' H',N σ' H'->∃m',m'<m/\Wq (i+1) m' σ' H')/\∀x H',(Itt K a).yld i H x H'->g x σ H' fun σ2 H2=>tb (eLp D (N)) σ2 H2):=by
 refine⟨fun i m σ H=>m=xs.length-i/\i<=xs.length/\Pv i σ H,⟨xs.length,by simp,AQ _,h0⟩, ?_⟩;rintro i m σ H ⟨rfl,hi,p⟩;have q:=hl i σ H hi p;by_cases Kf:i<xs.length
 .refine .inr ⟨⟨xs,xs[i],q,by simp[Kf]⟩,Pv (i+1),fun σ' H' p'=>⟨xs.length-(i+1),by lia,rfl,Kf,p'⟩,fun x H' y=> ?_⟩;obtain⟨e,y⟩:=y;subst e;exact hs i x σ _ (y xs q) p
 .have e:i=xs.length:=by lia
  subst e;exact .inl ⟨⟨xs,q,AB _⟩,hd σ H p⟩
theorem cJ {D:Ends}{σ:St}(Pv:Nat->St->Hp->Prop) (h0:Pv 0 σ H)
  (hs:∀i σ H,i<n->Pv i σ H->g (.int (lo+i)) σ H fun σ2 H2=>tb (eLp D (Pv (i+1))) σ2 H2) (hd:∀σ H,Pv n σ H->D.nx σ H):
  ∃Wq:Nat->Nat->St->Hp->Prop,(∃m,Wq 0 m σ H)/\∀i m σ H,Wq i m σ H->
   ((Itr lo n).stop i H/\D.nx σ H)\/((Itr lo n).go i H/\∃N:St->Hp->Prop,(∀σ' H',N σ' H'->∃m',m'<m/\Wq (i+1) m' σ' H')/\∀x H',(Itr lo n).yld i H x H'->g x σ H' fun σ2 H2=>tb (eLp D (N)) σ2 H2):=by
 refine⟨fun i m σ H=>m=n-i/\i<=n/\Pv i σ H,⟨n,by simp,AQ _,h0⟩, ?_⟩;rintro i m σ H ⟨rfl,hi,p⟩;by_cases Kf:i<n
 .refine .inr ⟨Kf,Pv (i+1),fun σ' H' p'=>⟨n-(i+1),by lia,rfl,Kf,p'⟩,fun x H' y=> ?_⟩;obtain⟨e,y⟩:=y;subst e y;exact hs i σ _ Kf p
 .have e:i=n:=by lia
  subst e;exact .inl ⟨AB _,hd σ H p⟩
abbrev R2:=V->V->Hp->VK->Prop
variable {r r':R2}
def OpR (X:Cx) (f:MR->MR->Sem MR) (r:R2):Prop:=
 ∀(J':O4 (OZ×Obj)) (s:OY) (σ:St) (H:Hp) (x y:V) (v u:MR) (Q:VK),Inv X J' σ H s->av x v->av y u->r x y H Q->
  wpAny (model X.prog X.w) X.A (f v u) (EP X J' σ Q) X.xe s
def UnR (X:Cx) (f:MR->Sem MR) (r:V->Hp->VK->Prop):Prop:=
 ∀(J':O4 (OZ×Obj)) (s:OY) (σ:St) (H:Hp) (x:V) (v:MR) (Q:VK),Inv X J' σ H s->av x v->r x H Q->
  wpAny (model X.prog X.w) X.A (f v) (EP X J' σ Q) X.xe s
def bL (X:Cx) (f:MR) (r:O4 V->Hp->VK->Prop):Prop:=
 ∀(J':O4 (OZ×Obj)) (s:OY) (σ:St) (H:Hp) (xs:O4 V) (us:O4 MR) (Q:VK),Inv X J' σ H s->au xs us->r xs H Q->
  wpAny (model X.prog X.w) X.A (call f us) (EP X J' σ Q) X.xe s
def xK (X:Cx) (r:V->Hp->(Bool->Hp->Prop)->Prop):Prop:=
 ∀(J':O4 (OZ×Obj)) (s:OY) (σ:St) (H:Hp) (x:V) (v:MR) (Q:Bool->Hp->Prop),Inv X J' σ H s->av x v->r x H Q->
  wpAny (model X.prog X.w) X.A (truthy v) (TP X J' σ Q) X.xe s
def tOp (r:R2) (ta tb:TE):TE:=fun σ H Q=>ta σ H fun x H1=>tb σ H1 fun y H2=>r x y H2 Q
def tUn (r:V->Hp->VK->Prop) (ta:TE):TE:=fun σ H Q=>ta σ H fun x H1=>r x H1 Q
inductive rI (C:Int->Int->Prop) (g:Int->Int->V) (x:V) (y:V) (H:Hp) (Q:VK):Prop
 |mk i j:x= .int i->y= .int j->C i j->Q (g i j) H->rI C g x y H Q
inductive rI0 (g:Int->Int->V) (x:V) (y:V) (H:Hp) (Q:VK):Prop
 |mk i j:x= .int i->y= .int j->Q (g i j) H->rI0 g x y H Q
inductive rU (g:Int->V) (x:V) (H:Hp) (Q:VK):Prop
 |mk i:x= .int i->Q (g i) H->rU g x H Q
section
variable {X:Cx}{a b c:O5}{ta tb tc:TE}{pos:Pos}
theorem k8 (ha:PE X a ta) (hb:PE X b tb) {σ:St}{R:V->V->Hp->Prop} (I:Inv X J' σ H s)
  (h:ta σ H fun x H1=>tb σ H1 fun y H2=>R x y H2) 
  (hf:∀v u s2 x y H2,Inv X J' σ H2 s2->av x v->av y u->R x y H2->wpAny (model X.prog X.w) X.A (f v u) Q X.xe s2):
  wpAny (model X.prog X.w) X.A (eval a X.env) (fun v s₁=>wpAny (model X.prog X.w) X.A (eval b X.env) (fun u s₂=>wpAny (model X.prog X.w) X.A (f v u) Q X.xe s₂) X.xe s₁) X.xe s:=by
 refine thn (ha J' s σ H _ I h) fun v s1 ⟨x,H1,I1,r1,q1⟩=> ?_;refine thn (hb J' s1 σ H1 _ I1 q1) fun u s2 ⟨y,H2,I2,r2,q2⟩=> ?_;exact hf v u s2 x y H2 I2 r1 r2 q2
theorem ah {op:Operator}(ho:OpR X (binaryOp op) r) (ha:PE X a ta) (hb:PE X b tb):PE X (.BinOp a op b pos) (tOp r ta tb):=by
 intro J' s σ H Q I h;exact wpAny_BinOp (k8 ha hb I h fun v u s2 x y H2 I2 rx ry q=>ho J' s2 σ H2 x y v u Q I2 rx ry q)
theorem gp {op:UnaryOp}{r:V->Hp->VK->Prop} (ho:UnR X (unaryOp op) r) (ha:PE X a ta):PE X (.UnaryOp op a pos) (tUn r ta):=by
 intro J' s σ H Q I h;exact UnaryOp_ (thn (ha J' s σ H _ I h) fun v s1 ⟨x,H1,I1,r1,q1⟩=>ho J' s1 σ H1 x v Q I1 r1 q1)
theorem opI {f:MR->MR->Sem MR}{C:Int->Int->Prop}{g:Int->Int->Int}
  (rule:∀(i j:Int) (t u:Tok) (s:OY) (Q:MR->OY->Prop) (E:MR->OY->Prop),C i j->Q (.int (g i j) s.toks) {s with toks:=s.toks+1}->wpAny (model X.prog X.w) X.A (f (.int i t) (.int j u)) Q E s):
  OpR X f (rI C fun i j=> .int (g i j)):=by
 intro J' s σ H x y v u Q I rx ry h;obtain⟨i,j,rfl,rfl,hc,q⟩:=h;obtain⟨t,rfl⟩:=rx;obtain⟨t',rfl⟩:=ry;exact rule i j t t' s _ _ hc ⟨.int (g i j),H,I.tok _,⟨_,rfl⟩,q⟩
theorem qj {f:MR->MR->Sem MR}{g:Int->Int->Int}
  (rule:∀(i j:Int) (t u:Tok) (s:OY) (Q:MR->OY->Prop) (E:MR->OY->Prop),Q (.int (g i j) s.toks) {s with toks:=s.toks+1}->wpAny (model X.prog X.w) X.A (f (.int i t) (.int j u)) Q E s):
  OpR X f (rI0 fun i j=> .int (g i j)):=by
 intro J' s σ H x y v u Q I rx ry h;obtain⟨i,j,rfl,rfl,q⟩:=h;obtain⟨t,rfl⟩:=rx;obtain⟨t',rfl⟩:=ry;exact rule i j t t' s _ _ ⟨.int (g i j),H,I.tok _,⟨_,rfl⟩,q⟩
theorem jx {g:Int->Int->Bool}
  (rule:∀(i j:Int) (t u:Tok) (s:OY) (Q:MR->OY->Prop) (E:MR->OY->Prop),Q (.bool (g i j)) s->wpAny (model X.prog X.w) X.A (f (.int i t) (.int j u)) Q E s):
  OpR X f (rI0 fun i j=> .bl (g i j)):=by
 intro J' s σ H x y v u Q I rx ry h;obtain⟨i,j,rfl,rfl,q⟩:=h;obtain⟨t,rfl⟩:=rx;obtain⟨t',rfl⟩:=ry;exact rule i j t t' s _ _ ⟨.bl (g i j),H,I,rfl,q⟩
def xL (i j:Int):Prop:=0<j/\j<1073741824
def xM (i j:Int):Prop:=0<=j/\j<=1000000/\i.natAbs<2^64
def jy (i j:Int):Prop:=(-(2^64)<i/\i<2^64)\/(-(2^64)<j/\j<2^64)
theorem jy.ok {i j:Int} (h:jy i j):IntMulOk i j:=by
 rcases h with⟨h1,h2⟩|⟨h1,h2⟩
 .exact .of_left (intBits_le_64 h1 h2)
 .exact .of_right (intBits_le_64 h1 h2)
def aC:OpR X (binaryOp .Add) (rI0 fun i j=> .int (i+j)):=qj fun _ _ _ _ _ _ _ q=>add_int q
def aK:OpR X (binaryOp .Sub) (rI0 fun i j=> .int (i-j)):=qj fun _ _ _ _ _ _ _ q=>sub_int q
def bC:OpR X (binaryOp .Mult) (rI jy fun i j=> .int (i*j)):=opI fun _ _ _ _ _ _ _ hc q=>mul_int q hc.ok
theorem k9:OpR X (binaryOp .FloorDiv) (rI xL fun i j=> .int (i/j)):=opI fun i j _ _ _ _ _ hc q=>by
 have h1:(0:Int)<j:=hc.1;have h2:j<1073741824:=hc.2;exact floordiv_int (by lia) (by rw[Int.fdiv_eq_ediv_of_nonneg i (by lia)];exact q) (.inl (PyProof.noPylong_small (by lia)))
theorem gq:OpR X (binaryOp .Mod) (rI (fun _ j=>0<j) fun i j=> .int (i%j)):=opI fun i j _ _ _ _ _ hc q=>by
 have h1:(0:Int)<j:=hc;exact mod_int' (by lia) (by rw[Int.fmod_eq_emod_of_nonneg i (by lia)];exact q)
def qk:OpR X (binaryOp .Pow) (rI xM fun i j=> .int (i^j.toNat)):=opI fun _ _ _ _ _ _ _ hc q=>pow_int_small hc.1 hc.2.1 hc.2.2 q
theorem unI {f:MR->Sem MR}{g:Int->Int}
  (rule:∀(i:Int) (t:Tok) (s:OY) (Q:MR->OY->Prop) (E:MR->OY->Prop),Q (.int (g i) s.toks) {s with toks:=s.toks+1}->wpAny (model X.prog X.w) X.A (f (.int i t)) Q E s):
  UnR X f (rU fun i=> .int (g i)):=by
 intro J' s σ H x v Q I rx h;obtain⟨i,rfl,q⟩:=h;obtain⟨t,rfl⟩:=rx;exact rule i t s _ _ ⟨.int (g i),H,I.tok _,⟨_,rfl⟩,q⟩
def gr:UnR X (unaryOp .USub) (rU fun i=> .int (-i)):=unI fun _ _ _ _ _ q=>neg_int q
end
def ql:V->V->Bool
 | .non, .non=>true| .non, .int _=>true| .int _, .non=>true| .non, .bl _=>true| .bl _, .non=>true| .non, .str _=>true| .str _, .non=>true
 | .int _, .int _=>true| .bl _, .bl _=>true| .str _, .str _=>true| .byt _, .byt _=>true
 | .int _, .str _=>true| .str _, .int _=>true| .bl _, .str _=>true| .str _, .bl _=>true
 |_,_=>false
def rEq:R2:=fun x y H Q=>ql x y=true/\Q (.bl (decide (x=y))) H
def rNe:R2:=fun x y H Q=>ql x y=true/\Q (.bl (!decide (x=y))) H
theorem qm {i j:Int}:decide (V.int i=V.int j)=(i==j):=by
 rw[DE];simp
theorem qo {i j:Bool}:decide (V.bl i=V.bl j)=(i==j):=by
 rw[DE];simp
theorem qp {i j:Str}:decide (V.str i=V.str j)=(i==j):=by
 rw[DE];simp
theorem qq {i j:Array UInt8}:decide (V.byt i=V.byt j)=(i.toList==j.toList):=by
 rw[DE];cases i;cases j;simp
section
variable {X:Cx}{a b c:O5}{ta tb tc:TE}{pos:Pos}
theorem bf {σ:St}{Q:VK}{k k':Bool} (I:Inv X J' σ H s) (q:Q (.bl k) H) (e:k=k'):EP X J' σ Q (.bool k') s:=by
 subst e;exact⟨.bl k,H,I,rfl,q⟩
theorem cn:OpR X (compareOp .Eq) rEq:=by
 intro J' s σ H x y v u Q I rx ry h;obtain⟨hs,q⟩:=h;cases x with
 |non=>
  cases rx;cases y with
  |non=>cases ry;exact PySem.EqNone.eq_none_none (bf I q (by simp))
  |bl j=>cases ry;exact PySem.EqNone.eq_none_bool (bf I q (by simp))
  |int j=>obtain⟨t',rfl⟩:=ry;exact PySem.EqNone.eq_none_int (bf I q (by simp))
  |str j=>obtain⟨t',rfl⟩:=ry;exact PySem.EqNone.eq_none_str (bf I q (by simp))
  |_=>exact absurd (show false=true from hs) AZ
 |bl i=>
  cases rx;cases y with
  |non=>cases ry;exact PySem.EqNone.eq_bool_none (bf I q (by simp))
  |bl j=>cases ry;exact eq_bool (bf I q qo)
  |str j=>obtain⟨t',rfl⟩:=ry;exact PySem.EqMixed.eq_bool_str (bf I q (by simp))
  |_=>exact absurd (show false=true from hs) AZ
 |int i=>
  obtain⟨t,rfl⟩:=rx;cases y with
  |non=>cases ry;exact PySem.EqNone.eq_int_none (bf I q (by simp))
  |int j=>obtain⟨t',rfl⟩:=ry;exact eq_int (bf I q qm)
  |str j=>obtain⟨t',rfl⟩:=ry;exact PySem.EqMixed.eq_int_str (bf I q (by simp))
  |_=>exact absurd (show false=true from hs) AZ
 |str i=>
  obtain⟨t,rfl⟩:=rx;cases y with
  |non=>cases ry;exact PySem.EqNone.eq_str_none (bf I q (by simp))
  |bl j=>cases ry;exact PySem.EqMixed.eq_str_bool (bf I q (by simp))
  |int j=>obtain⟨t',rfl⟩:=ry;exact PySem.EqMixed.eq_str_int (bf I q (by simp))
  |str j=>obtain⟨t',rfl⟩:=ry;exact eq_str (bf I q qp)
  |_=>exact absurd (show false=true from hs) AZ
 |byt i=>
  obtain⟨t,rfl⟩:=rx;cases y with
  |byt j=>obtain⟨t',rfl⟩:=ry;exact W.eq_bytes (bf I q qq)
  |_=>exact absurd (show false=true from hs) AZ
 |_=>cases y<;>exact absurd (show false=true from hs) AZ
theorem qr:OpR X (compareOp .NotEq) rNe:=by
 intro J' s σ H x y v u Q I rx ry h;obtain⟨hs,q⟩:=h;cases x with
 |non=>
  cases rx;cases y with
  |non=>cases ry;exact PySem.EqNone.ne_none_none (bf I q (by simp))
  |bl j=>cases ry;exact PySem.EqNone.ne_none_bool (bf I q (by simp))
  |int j=>obtain⟨t',rfl⟩:=ry;exact PySem.EqNone.ne_none_int (bf I q (by simp))
  |str j=>obtain⟨t',rfl⟩:=ry;exact PySem.EqNone.ne_none_str (bf I q (by simp))
  |_=>exact absurd (show false=true from hs) AZ
 |bl i=>
  cases rx;cases y with
  |non=>cases ry;exact PySem.EqNone.ne_bool_none (bf I q (by simp))
  |bl j=>cases ry;exact ne_bool (bf I q (BN not qo))
  |str j=>obtain⟨t',rfl⟩:=ry;exact PySem.EqMixed.ne_bool_str (bf I q (by simp))
  |_=>exact absurd (show false=true from hs) AZ
 |int i=>
  obtain⟨t,rfl⟩:=rx;cases y with
  |non=>cases ry;exact PySem.EqNone.ne_int_none (bf I q (by simp))
  |int j=>obtain⟨t',rfl⟩:=ry;exact ne_int (bf I q (BN not qm))
  |str j=>obtain⟨t',rfl⟩:=ry;exact PySem.EqMixed.ne_int_str (bf I q (by simp))
  |_=>exact absurd (show false=true from hs) AZ
 |str i=>
  obtain⟨t,rfl⟩:=rx;cases y with
  |non=>cases ry;exact PySem.EqNone.ne_str_none (bf I q (by simp))
  |bl j=>cases ry;exact PySem.EqMixed.ne_str_bool (bf I q (by simp))
  |int j=>obtain⟨t',rfl⟩:=ry;exact PySem.EqMixed.ne_str_int (bf I q (by simp))
  |str j=>obtain⟨t',rfl⟩:=ry;exact ne_str (bf I q (BN not qp))
  |_=>exact absurd (show false=true from hs) AZ
 |byt i=>
  obtain⟨t,rfl⟩:=rx;cases y with
  |byt j=>obtain⟨t',rfl⟩:=ry;exact W.ne_bytes (bf I q (BN not qq))
  |_=>exact absurd (show false=true from hs) AZ
 |_=>cases y<;>exact absurd (show false=true from hs) AZ
def cK:OpR X (compareOp .Lt) (rI0 fun i j=> .bl (decide (i<j))):=jx fun _ _ _ _ _ _ _ q=>lt_int q
def eN:OpR X (compareOp .LtE) (rI0 fun i j=> .bl (decide (i<=j))):=jx fun _ _ _ _ _ _ _ q=>le_int q
def dR:OpR X (compareOp .Gt) (rI0 fun i j=> .bl (decide (j<i))):=jx fun _ _ _ _ _ _ _ q=>gt_int q
def ix:OpR X (compareOp .GtE) (rI0 fun i j=> .bl (decide (j<=i))):=jx fun _ _ _ _ _ _ _ q=>ge_int q
theorem xN:OpR X (compareOp .Is) (fun x y H Q=>y= .non/\Q (.bl (decide (x= .non))) H):=by
 intro J' s σ H x y v u Q I rx ry h;obtain⟨rfl,q⟩:=h;cases ry;refine is_none_gen (bf I q ?_);cases x<;>first
  |(cases rx;rfl)
  |(obtain⟨t,rfl⟩:=rx;rfl)
theorem aF (b:O5) (h:op≠ .In:=by decide) (h2:op≠ .NotIn:=by decide):behindInMarks op b=false:=by
 have e1:(op==CmpOp.In)=false:=by cases op<;>first|rfl|exact absurd rfl h
 have e2:(op==CmpOp.NotIn)=false:=by cases op<;>first|rfl|exact absurd rfl h2
 cases b<;>first|rfl|(show(_&&(op==CmpOp.In||op==CmpOp.NotIn)&&_)=false;rw[e1,e2,Bool.or_self,C9,Cw])
theorem eO (ho:OpR X (compareOp op) r) (ha:PE X a ta) (hb:PE X b tb) (hm:behindInMarks op b=false):PE X (.Compare a [op] [b] pos) (tOp r ta tb):=by
 intro J' s σ H Q I h;exact wpAny_Compare1 (k8 ha hb I h fun v u s2 x y H2 I2 rx ry q=>ho J' s2 σ H2 x y v u Q I2 rx ry q) hm
inductive tTest_ (Q:(Bool->Hp->Prop)) (x:V) (H':Hp):Prop
 |mk k:x= .bl k->Q k H'->tTest_ Q x H'
def qt (t:TE):TT:=fun σ H Q=>t σ H fun x H'=>tTest_ Q x H'
theorem aM (ho:OpR X (compareOp op) r) (ha:PE X a ta) (hb:PE X b tb) (hm:behindInMarks op b=false):PT X (.Compare a [op] [b] pos) (qt (tOp r ta tb)):=by
 intro J' s σ H Q I h;refine wpAny_isTrue_Compare1 (thn (ha J' s σ H _ I h) fun v s1 ⟨x,H1,I1,r1,q1⟩=>thn (hb J' s1 σ H1 _ I1 q1) fun u s2 ⟨y,H2,I2,r2,q2⟩=>
  thn (ho J' s2 σ H2 x y v u _ I2 r1 r2 q2) fun c s3 ⟨z,H3,I3,r3,k,e,q3⟩=> ?_) hm
 subst e;cases r3;exact B9 ⟨H3,I3,q3⟩
inductive tChain_ (r':R2) (tc:TE) (σ:St) (Q:VK) (y:V) (z:V) (H3:Hp):Prop
 |mk k:z= .bl k->((if k=true then tc σ H3 fun w' H4=>r' y w' H4 Q else Q (.bl false) H3))->tChain_ r' tc σ Q y z H3
def qu (r r':R2) (ta tb tc:TE):TE:=fun σ H Q=>ta σ H fun x H1=>tb σ H1 fun y H2=>r x y H2 fun z H3=>tChain_ r' tc σ Q y z H3
theorem xO (ho:OpR X (compareOp op) r) (KJ:OpR X (compareOp Ob) r') (ha:PE X a ta) (hb:PE X b tb) (hc:PE X c tc)
  (hm:lastMarks [op,Ob] [b,c]=false:=by with_unfolding_all rfl):PE X (.Compare a [op,Ob] [b,c] pos) (qu r r' ta tb tc):=by
 intro J' s σ H Q I h;refine Compare_chain (thn (ha J' s σ H _ I h) fun v s1 ⟨x,H1,I1,r1,q1⟩=>chain_link (thn (hb J' s1 σ H1 _ I1 q1) fun u s2 ⟨y,H2,I2,r2,q2⟩=>
  thn (ho J' s2 σ H2 x y v u _ I2 r1 r2 q2) fun d s3 ⟨z,H3,I3,r3,k,e,q3⟩=> ?_)) hm
 subst e;cases r3;refine B9 ?_;cases k with
 |false=>exact ite_ff ⟨.bl false,H3,I3,rfl,q3⟩
 |true=>exact ite_tt (chain_last (thn (hc J' s3 σ H3 _ I3 q3) fun w' s4 ⟨z',H4,I4,r4,q4⟩=>KJ J' s4 σ H4 y z' u w' Q I4 r2 r4 q4))
theorem qv (ho:OpR X (compareOp op) r) (KJ:OpR X (compareOp Ob) r') (ha:PE X a ta) (hb:PE X b tb) (hc:PE X c tc)
  (hm:lastMarks [op,Ob] [b,c]=false:=by with_unfolding_all rfl):PT X (.Compare a [op,Ob] [b,c] pos) (qt (qu r r' ta tb tc)):=by
 intro J' s σ H Q I h;refine isTrue_chain (thn (ha J' s σ H _ I h) fun v s1 ⟨x,H1,I1,r1,q1⟩=>test_link (thn (hb J' s1 σ H1 _ I1 q1) fun u s2 ⟨y,H2,I2,r2,q2⟩=>
  thn (ho J' s2 σ H2 x y v u _ I2 r1 r2 q2) fun d s3 ⟨z,H3,I3,r3,k,e,q3⟩=> ?_)) hm
 subst e;cases r3;refine B9 ?_;cases k with
 |false=>
  obtain⟨k',e',q'⟩:=q3;cases e';exact ite_ff ⟨H3,I3,q'⟩
 |true=>
  refine ite_tt (test_last (thn (hc J' s3 σ H3 _ I3 q3) fun w' s4 ⟨z',H4,I4,r4,q4⟩=>thn (KJ J' s4 σ H4 y z' u w' _ I4 r2 r4 q4) fun d' s5 ⟨z2,H5,I5,r5,k2,e2,q5⟩=> ?_));subst e2;cases r5;exact B9 ⟨H5,I5,q5⟩
def qw (K:W.Frag) (x:V) (H:Hp) (k:Bool):Prop:=
 match x with
 | .non=>k=false
 | .bl b=>k=b
 | .int i=>k=(i !=0)
 | .str y=>y.length<=sizeLine/\k=((y.length:Int) !=0)
 | .byt y=>y.size<=sizeLine/\k=((y.size:Int) !=0)
 | .ref p=>(∃xs,SqL K H p xs/\k= !xs.isEmpty)\/(∃xs,SqT K H p xs/\k= !xs.isEmpty)\/∃Kb,H p=some (.dK Kb)/\k= !Kb.isEmpty
 |_=>False
theorem xP {κ:Type}{Kb:O4 (κ×V)}{vs:O4 (κ×MR)} (r:KV Kb vs):(!vs.isEmpty)= !Kb.isEmpty:=by
 cases r<;>rfl
theorem lm {Kd:O4 MR} (r:au xs Kd):(!Kd.toArray.isEmpty)= !xs.isEmpty:=by
 cases r<;>simp
theorem fL:(sizeLine:Nat)<2^63:=by rw[Av];decide
theorem xQ:xK X (fun x H Q=>∃k,qw X.K x H k/\Q k H):=by
 intro J' s σ H x v Q I rx h;obtain⟨k,e,q⟩:=h;have hl:=fL;have hs:sizeLine=16777216:=Av;cases x with
 |non=>
  cases rx;have e':k=false:=e;subst e';exact truthy_none ⟨H,I,q⟩
 |bl b=>
  cases rx;have e':k=b:=e;subst e';exact B9 ⟨H,I,q⟩
 |int i=>
  obtain⟨t,rfl⟩:=rx;have e':k=(i !=0):=e;subst e';exact PySem.P.truthy_int ⟨H,I,q⟩
 |str y=>
  obtain⟨t,rfl⟩:=rx;obtain⟨hy,e'⟩:y.length<=sizeLine/\k=((y.length:Int) !=0):=e;subst e';exact PySem.P.truthy_str (by lia) ⟨H,I.tok _,q⟩
 |byt y=>
  obtain⟨t,rfl⟩:=rx;obtain⟨hy,e'⟩:y.size<=sizeLine/\k=((y.size:Int) !=0):=e;subst e';exact W.truthy_bytes (by lia) ⟨H,I.tok _,q⟩
 |ref p=>
  cases rx;have e':(∃xs,SqL X.K H p xs/\k= !xs.isEmpty)\/(∃xs,SqT X.K H p xs/\k= !xs.isEmpty)\/∃Kb,H p=some (.dK Kb)/\k= !Kb.isEmpty:=e;rcases e' with⟨xs,hx,e'⟩|⟨xs,hx,e'⟩|⟨Kb,hx,e'⟩
  .subst e';obtain⟨Kd,r,pl,hz⟩:=I.list hx;have Ke:=r.length;exact wpAny_truthy_list pl.isList (by simp only[AE];lia) ⟨H,I.tok _,by rw[lm r];exact q⟩
  .subst e';obtain⟨Kd,r,pl,hz⟩:=I.tuple hx;have Ke:=r.length;exact truthy_tuple pl (by simp only[AE];lia) ⟨H,I.tok _,by rw[lm r];exact q⟩
  .subst e';obtain⟨hz,hS,vs,r,m⟩:Kb.length<=sizeLine/\(p==sysModules)=false/\∃vs,KV Kb vs/\s.heap.DictOf (bZ X.prog X.w) p vs:=I.hok p _ hx;have Ke:Kb.length=vs.length:=CC r;exact wpAny_truthy_dict hS m (by lia) ⟨H,I.tok _,by rw[xP r];exact q⟩
 |_=>exact(show False from e).elim
theorem xR (ha:PE X a ta) (he:∀K4,isTrue a X.env K4=(do let v<-K4;standAt a.pos;holding [v] (truthy v))):
  PT X a (fun σ H Q=>ta σ H fun x H'=>∃k,qw X.K x H' k/\Q k H'):=by
 intro J' s σ H Q I h;exact isTrue_plain (thn (ha J' s σ H _ I h) fun v s1 ⟨x,H1,I1,r1,q1⟩=>xQ J' s1 σ H1 x v Q I1 r1 q1) (he _)
theorem cB {x:V}(r:au [x] us):∃u,us=[u]/\av x u:=by
 cases r with
 |cons r1 r2=>cases r2;exact⟨_,rfl,r1⟩
theorem lq {x y:V}(r:au [x,y] us):∃u w',us=[u,w']/\av x u/\av y w':=by
 cases r with
 |cons r1 r2=>
  cases r2 with
  |cons r3 r4=>cases r4;exact⟨_,_,rfl,r1,r3⟩
theorem qx:bL X (.builtin "abs") (fun xs H Q=>∃i,xs=[.int i]/\Q (.int (if i<0 then -i else i)) H):=by
 intro J' s σ H xs us Q I r h;obtain⟨i,rfl,q⟩:=h;obtain⟨u,rfl,t,rfl⟩:=cB r;exact call_abs_int fun u tk=>⟨.int (if i<0 then -i else i),H,I.tok _,⟨_,rfl⟩,q⟩
theorem xS (hc:X.calm=true):bL X (.builtin "min") (fun xs H Q=>∃i j,xs=[.int i, .int j]/\Q (.int (if j<i then j else i)) H):=by
 intro J' s σ H xs us Q I r h;obtain⟨i,j,rfl,q⟩:=h;obtain⟨u,w',rfl,⟨t,rfl⟩,⟨t',rfl⟩⟩:=lq r;refine min_two_ints (I.ok.hd hc) fun h' tk k=>⟨_,H,I.kept k, ?_,q⟩;by_cases hj:j<i
 .rw [A8 hj,A8 hj];exact⟨_,rfl⟩
 .rw [A6 hj,A6 hj];exact⟨_,rfl⟩
end
structure ObjM (h:O6) (x dx C:OZ) (mA:Str->O7 MR):Prop where
 obj:h.get? x=some (W.instObj C dx)
 ns:h.Ns1 dx mA
 ne:dx≠x
theorem xT (n:h.Ns1 dx mA):∃od,h.get? dx=some od/\∀name,W.lookIn name od=some (mA name):=by
 obtain⟨o,es,ep,ho,hd,hk,_,hm⟩:=n;refine⟨o,ho,fun name=> ?_⟩;have e:=hm name;unfold nsFind findBy at e;rw[<-Array.find?_toList] at e;unfold W.lookIn;rw[hd];dsimp only;split
 .rename_i y q;rw[q] at e;exact BN some e
 .rename_i q;rw[q] at e;have a:es.toList.any (·.refKey)=false:=by
   rw[List.any_eq_false];intro y hy;obtain⟨z,t,hkey⟩:=hk y (Array.mem_toList_iff.mp hy);simp[DictEntry.refKey,hkey]
  have a':¬es.toList.any (·.refKey)=true:=by rw[a];exact AZ
  rw[A6 a'];exact BN some e
def ObjM.look {x C:OZ}(I:ObjM h x dx C mA):∃od,W.InstAt h x (W.instObj C dx) C (some od)/\∀name,W.lookIn name od=some (mA name):=
 let ⟨od,ho,hl⟩:=xT I.ns
 ⟨od,⟨I.obj,rfl,rfl,ho⟩,hl⟩
theorem cz.some_of {o:O7 MR} (r:cz (some v) o):∃u,o=some u/\av v u:=by
 cases o with
 |none=>exact(show False from r).elim
 |some u=>exact⟨u,rfl,r⟩
section
variable {P:O0}{w:O2}{H H':Hp}{h h':O6}{a C dx:OZ}{fs fs':O4 (Str×V)}
theorem xU (hok:HOk P w H h) (e:H a=some (.ins C dx fs)):∃mA,ObjM h a dx C mA/\(∀f,cz (fs.lookup f) (mA f))/\PySem.Within mA (fs.map (·.1))/\fs.length<=1000/\H dx=some (.own a):=by
 obtain⟨d,z,ne,ob,mA,n,r,q⟩:=(show aI P w H h a (.ins C dx fs) from hok a _ e);exact⟨mA,⟨ob,n,ne⟩,r,q,z,d⟩
end
structure Cls (K:W.Frag) (C:OZ):Prop where
 pg:W.plainGet K C Str.empty=true
 hd:W.hasDictIn K C=true
 po:W.plainOver K C=true
 sa:W.findIn K (.ref C) "__setattr__"=some (some (.builtin "object.__setattr__"))
def Cls.get {K:W.Frag}{C:OZ} (c:Cls K C) (f:Str):W.plainGet K C f=true:=c.pg
section
variable {X:Cx}{J':O4 (OZ×Obj)}{σ:St}{H:Hp}{s:OY}{A:O3}{E:MR->OY->Prop}{Q:MR->OY->Prop}{c:MR}{b:Bool}
inductive TyOf (K:W.Frag) (H:Hp):V->Value->Prop where
 |non:TyOf K H .non (.type "NoneType")
 |bl (x:Bool):TyOf K H (.bl x) (.type "bool")
 |int (i:Int):TyOf K H (.int i) (.type "int")
 |str (x:Str):TyOf K H (.str x) (.type "str")
 |flt (x:UInt64):TyOf K H (.flt x) (.type "float")
 |lst {a:Addr}{xs:List V} (e:H a=some (.lst xs)):TyOf K H (.ref a) (.type "list")
 |frz {a:Addr}{o:Obj}{xs:List V} (e:H a=some (.frz o (.lst xs))):TyOf K H (.ref a) (.type "list")
 |tup {a:Addr}{xs:List V} (e:H a=some (.tup xs)):TyOf K H (.ref a) (.type "tuple")
 |dK {a:Addr}{Kb:List (Key×V)} (e:H a=some (.dK Kb)):TyOf K H (.ref a) (.type "dict")
 |dT {a:Addr}{Kb:List (List Key×V)} (e:H a=some (.dT Kb)):TyOf K H (.ref a) (.type "dict")
 |ins {a C dx:Addr}{fs:List (Str×V)} (e:H a=some (.ins C dx fs)) (cl:Cls K C) (ha:W.findIn K (.ref C) "__class__"=some (some (.builtin "object.__class__")))
   (hn:W.specialIn K (.builtin "object.__class__") "__get__"=some (some (.builtin "getset_descriptor.__get__"))) (htk:W.takesIn K (.builtin "object.__class__")=some true)
   (hm:W.mroIn K C (.type "object")=some true):TyOf K H (.ref a) (.ref C)
theorem xV {x:V}{t:MR} (I:Inv X J' σ H s) (rx:av x u) (ty:TyOf X.K H x t) (e:W.kitOne X.K t c=some b) (h:∀tk,Q (.bool b) {s with toks:=tk}):
  wpAny (model X.prog X.w) A (call (.builtin "isinstance") [u,c]) Q E s:=by
 cases ty with
 |non=>cases (show u=Value.none from rx);exact Bd W.kitx_none I.kIn True.intro e (fun z=>nomatch z) h
 |bl y=>cases (show u=Value.bool y from rx);exact Bd W.kitx_bool I.kIn True.intro e (fun z=>nomatch z) h
 |int i=>obtain⟨t,q⟩:=(show∃t,u=Value.int i t from rx);cases q;exact Bd W.kitx_int I.kIn True.intro e (fun z=>nomatch z) h
 |str y=>obtain⟨t,q⟩:=(show∃t,u=Value.str y t from rx);cases q;exact Bd W.kitx_str I.kIn True.intro e (fun z=>nomatch z) h
 |flt y=>obtain⟨t,q⟩:=(show∃t,u=Value.float y t from rx);cases q;exact Bd W.kitx_float I.kIn True.intro e (fun z=>nomatch z) h
 | @lst a xs ea=>
  cases (show u=Value.ref a from rx);obtain⟨_,_,n,_,h1⟩:=(show aI X.prog X.w H s.heap a (.lst xs) from I.hok a _ ea);exact Bd W.kitx_list I.kIn ⟨_,h1,rfl⟩ e (fun z=>nomatch z) h
 | @frz a ob xs ea=>
  cases (show u=Value.ref a from rx);obtain⟨_,_,_,n,_,h1⟩:=(show aI X.prog X.w H s.heap a (.frz ob (.lst xs)) from I.hok a _ ea);exact Bd W.kitx_list I.kIn ⟨_,h1,rfl⟩ e (fun z=>nomatch z) h
 | @tup a xs ea=>
  cases (show u=Value.ref a from rx);obtain⟨_,_,_,p⟩:=(show aI X.prog X.w H s.heap a (.tup xs) from I.hok a _ ea);obtain⟨o,h1,h2,_⟩:=p;exact Bd W.kitx_tuple I.kIn ⟨o,h1,h2⟩ e (fun z=>nomatch z) h
 | @dK a Kb ea=>
  cases (show u=Value.ref a from rx);obtain⟨_,_,vs,_,p⟩:=(show aI X.prog X.w H s.heap a (.dK Kb) from I.hok a _ ea);obtain⟨o,es,ep,h1,h2,_⟩:=p;exact Bd W.kitx_dict I.kIn ⟨o,h1,h2.1⟩ e (fun z=>nomatch z) h
 | @dT a Kb ea=>
  cases (show u=Value.ref a from rx);obtain⟨_,_,xs,_,o,es,ep,h1,h2,_⟩:=(show aI X.prog X.w H s.heap a (.dT Kb) from I.hok a _ ea);exact Bd W.kitx_dict I.kIn ⟨o,h1,h2.1⟩ e (fun z=>nomatch z) h
 | @ins a C dx fs ea cl ha hn htk hm=>
  cases (show u=Value.ref a from rx);obtain⟨mA,O,_⟩:=xU I.hok ea;obtain⟨od,J,_⟩:=O.look;exact Bd (W.kitx_own (cl.get _) cl.hd ha hn htk hm) I.kIn J e (fun z=>nomatch z) h
end
structure Room (k:Nat) (A:O3):Prop where
 hd:A.handled=none
 dp:A.depth+3*k+5<recursionLimit
 un:A.units+16*k+200<cLine
theorem Room.mono (r:Room k A) (h:j<=k):Room j A:=⟨r.hd,by have:=r.dp;lia,by have:=r.un;lia⟩
theorem Room.deeper {k:Nat}{A:O3} (r:Room (k+1) A) (env:Env):Room k (A.deeper env):=
 ⟨r.hd,by have:=r.dp;show A.depth+1+3*k+5<_;lia,by have:=r.un;show A.units+3+16*k+200<_;lia⟩
theorem Room.depth {k:Nat}{A:O3} (r:Room k A):A.depth<recursionLimit:=by have:=r.dp;lia
theorem Room.units {k:Nat}{A:O3} (r:Room k A):A.units+64<cLine:=by have:=r.un;lia
def xW:TA:=fun _ H Q=>Q [] H
def xX (ta:TE) (tr:TA):TA:=fun σ H Q=>ta σ H fun x H1=>tr σ H1 fun xs H2=>Q (x::xs) H2
section
variable {X:Cx}{e:O5}{es:O4 O5}{te:TE}{t:TA}{pos:Pos}
def af:PA X [] xW:=fun _ _ _ _ H Q I h=>Calls.spliced_nil ⟨[],H,I, .nil,h⟩
theorem ab (ha:PE X e te) (hr:PA X es t) (hs:starEach (e::es) X.env=(false,eval e X.env)::starEach es X.env:=by rfl):PA X (e::es) (xX te t):=by
 intro pos J' s σ H Q I h;rw[hs];show wpAny _ _ (spliced ((false,eval e X.env)::backTo pos (starEach es X.env))) _ _ s;refine D1 (thn (ha J' s σ H _ I h) fun u s1 ⟨x,H1,I1,r1,q1⟩=> ?_);exact thn (hr pos J' s1 σ H1 _ I1 q1) fun us s2 ⟨xs,H2,I2,r2,q2⟩=>⟨x::xs,H2,I2, .cons r1 r2,q2⟩
def xY (t:TA):TE:=fun σ H Q=>t σ H fun xs H1=>xs.length<=sizeLine/\∀p,H1 p=none->Q (.ref p) (upd H1 p (.lst xs))
theorem jz (h:PA X es t):PE X (.List es pos) (xY t):=by
 intro J' s σ H Q I hq;refine wpAny_List_spliced (thn (h pos J' s σ H _ I hq) fun us s1 ⟨xs,H1,I1,r,z,q⟩=>⟨by rw[<-r.length];exact z, ?_⟩);have hf:H1 s1.heap.objs.size=none:=I1.hok.fresh (AB _);refine⟨.ref s1.heap.objs.size,upd H1 s1.heap.objs.size (.lst xs),I1.laid (t':=s1.toks) (fun b u e=>A4 _ e) (AB _) ?_,rfl,q _ hf⟩;exact⟨z,us,0,r,AI _ rfl⟩
end
abbrev Sp:=O4 V->Hp->VK->XK->Prop
abbrev CXT:=O4 Env->Hp->OY->XK->MR->OY->Prop
variable {CX:CXT}
structure Env0 (P:O0) (w:O2) (K:W.Frag) (mg:Str->O7 MR) (base:O6) (A:O3) (outer:O4 Env) (s:OY) (H:Hp):Prop where
 frames:A.frames=some outer
 mod:Mod K mg base
 bs:∀b o,base.get? b=some o->s.heap.get? b=some o/\H b=none
 bsz:base.objs.size<=s.heap.objs.size
 funs:s.heap.FunFrames base outer
 frf:∀b∈frs outer,H b=none
 hok:HOk P w H s.heap
 bare:AllBare s.gens
def CE (outer:O4 Env) (P:O0) (w:O2) (H:Hp) (s:OY) (Q:VK) (u:MR) (s':OY):Prop:=
 ∃v H',s'.os=s.os/\AllBare s'.gens/\Un (frs outer) [] H H' s.heap s'.heap/\HOk P w H' s'.heap/\av v u/\Q v H'
def CR (CX:CXT) (outer:O4 Env) (P:O0) (w:O2) (H:Hp) (s:OY) (Q:VK) (E:XK) (r:Result) (s':OY):Prop:=
 match r with
 | .ok (.ret u)=>CE outer P w H s Q u s'
 | .ok _=>False
 | .error e=>CX outer H s E e s'
structure FnOk (P:O0) (w:O2) (K:W.Frag) (mg:Str->O7 MR) (base:O6) (CX:CXT) (k:Nat) (f:OZ) (fd:O1) (ps:O4 Str) (sp:Sp):Prop where
 len:∀vs H Q E,sp vs H Q E->vs.length=ps.length
 run:∀(A:Around) (outer:List Env) (s:Shared) (H:Hp) (args:Args) (us:List Value) (vs:List V) (Q:VK) (E:XK),Room k A->Env0 P w K mg base A outer s H->BindsTo s fd args (ps.zip us)->au vs us->sp vs H Q E->
  codeAny (model P w) A (.call (.ref f) args) (CR CX outer P w H s Q E) s
section
variable {X:Cx}{J':O4 (OZ×Obj)}{σ:St}{H:Hp}{s s':OY}
def Inv.env0 (I:Inv X J' σ H s):Env0 X.prog X.w X.K X.mg X.base X.A X.stack s H:=
 ⟨I.ok.frames,I.ok.mod,I.bs,B7 I.ok.bsz I.sz,I.stack,I.stkFree,I.hok,I.bare⟩
theorem Inv.after {Q:VK}(I:Inv X J' σ H s) (h:CE X.stack X.prog X.w H s Q u s'):EP X J' σ Q u s':=by
 obtain⟨v,H',os,bare,un,hok,r,q⟩:=h;obtain⟨hh,g,d,t,Oc⟩:=s';obtain rfl:Oc=s.os:=os;exact⟨v,H',I.call (h':=hh) (g':=g) (d':=d) (t':=t) (ch:=[]) un hok bare (fun b z=>absurd z (by simp)),r,q⟩
end
def qy (sp:Sp) (Ki:O4 V) (E:XK) (t:TA):TE:=fun σ H Q=>t σ H fun vs H1=>sp (vs++Ki) H1 Q E
def gs (K:W.Frag) (fd:O1) (ps:O4 Str) (ds:O4 MR):Prop:=
 ∀(s:OY) (us:O4 MR),K.In s.heap->(us++ds).length=ps.length->BindsTo s fd ⟨us,[]⟩ (ps.zip (us++ds))
theorem gs.all {fd:O1}(h:∀us:O4 MR,us.length=ps.length->bindArgs fd ⟨us,[]⟩=pure (ps.zip us)):gs K fd ps []:=fun s us _ hl=>by
 rw[B5] at hl⊢;exact .of_eq (h us hl)
def lr (CX:CXT) (X:Cx) (E:XK):Prop:=∀(J':O4 (OZ×Obj)) (σ:St) (H:Hp) (s:OY) (e:MR) (s':OY),Inv X J' σ H s->CX X.stack H s E e s'->X.xe e s'
section
variable {X:Cx}{CX:CXT}{k:Nat}{f C:OZ}{fd:O1}{ps:O4 Str}{sp:Sp}{Ki:O4 V}{ds:O4 MR}{E:XK}{x m:Str}{p pos KB:Pos}{e o:O5}{es:O4 O5}{ta:TE}{t:TA}
theorem xZ {σ:St}{Q:VK}(F:FnOk X.prog X.w X.K X.mg X.base CX k f fd ps sp) (hr:Room k X.A) (hb:gs X.K fd ps ds) (hd:au Ki ds) (hx:lr CX X E)
  (I:Inv X J' σ H s) (r:au vs us) (h:sp (vs++Ki) H Q E):wpAny (model X.prog X.w) X.A (call (.ref f) us) (EP X J' σ Q) X.xe s:=by
 have r2:au (vs++Ki) (us++ds):=r.append hd;have hl:(us++ds).length=ps.length:=by rw[<-r2.length];exact F.len _ _ _ _ h
 refine wpAny_call (codeAny_mono (F.run X.A X.stack s H ⟨us,[]⟩ (us++ds) (vs++Ki) Q E hr I.env0 (hb s us I.kIn hl) r2 h) fun r s' hq=> ?_);cases r with
 |error e=>exact hx J' σ H s e s' I hq
 |ok fl=>
  cases fl with
  |ret u=>exact I.after hq
  |next=>exact False.elim hq
  |brk=>exact False.elim hq
  |cont=>exact False.elim hq
theorem dS (F:FnOk X.prog X.w X.K X.mg X.base CX k f fd ps sp) (hr:Room k X.A) (hg:Gl X x) (hm:X.mg x=some (.ref f)) (hk:W.keepIn X.K (.ref f)=true) (hb:gs X.K fd ps ds) (hd:au Ki ds) (hx:lr CX X E)
  (ha:PA X (e::es) t) (MK:(x==("__debug__":Str))=false:=by decide) (he:starEach (e::es) X.env=(false,eval e X.env)::starEach es X.env:=by rfl) (L7:(backTo pos (starEach es X.env)).any (·.1)=false:=by rfl):
  PE X (.Call (.Name x p) (e::es) [] pos) (qy sp Ki E t):=by
 intro J' s σ H Q I h;refine Bn (p8 I hg hm ?_ MK);refine W.callWith_K (h₀:=X.base) I.ok.mod.kin hk (thn (ha pos J' s σ H _ I h) fun us s1 ⟨vs,H1,I1,r,q⟩=>⟨I1.kIn, ?_⟩) he L7;exact xZ F hr hb hd hx I1 r q
end
structure FnScope (N P:O4 Str) (sc:Scope):Prop where
 kind:sc.kind= .function
 co:sc.isCoroutine=false
 gen:sc.isGenerator=false
 nd:N.Nodup
 pre:N.take P.length=P
 par:∀x∈P,sc.names.lookup x=some .local\/sc.names.lookup x=some .cell
 nofree:∀y∈sc.names,y.2≠ .free
theorem qz {kindOf:Str->O7 NameKind}{x:Str}:∀{binds:O4 (Str×MR)}{m:Str->O7 MR},(∀v,(x,v)∉binds)->bindL kindOf binds m x=m x
 |[],_,_=>rfl
 |(n,v)::r,m,h=>by
  unfold bindL;rw[qz fun w hw=>h w (AL _ hw)];split
  .have:x≠n:=by rintro rfl;exact h v AH
   simp[this]
  .rfl
theorem qA {kindOf:Str->O7 NameKind}{x:Str}:∀{binds:O4 (Str×MR)}{m:Str->O7 MR},(∀v,(x,v)∉binds)->bindC kindOf binds m x=m x
 |[],_,_=>rfl
 |(n,v)::r,m,h=>by
  unfold bindC;rw[qA fun w hw=>h w (AL _ hw)];split
  .rfl
  .have:x≠n:=by rintro rfl;exact h v AH
   simp[this]
theorem qB {kindOf:Str->O7 NameKind}{x:Str}{v:MR}:∀{P:O4 Str}{vs:O4 MR}{i:Nat}{m:Str->O7 MR},P.Nodup->P[i]? =some x->vs[i]? =some v->kindOf x=some .local->
  bindL kindOf (P.zip vs) m x=some v
 |[],_,_,_,_,h,_,_=>by simp at h
 |_::_,[],_,_,_,_,h,_=>by simp at h
 |p::P,w::vs,0,m,nd,h1,h2,hk=>by
  simp at h1 h2;subst h1;subst h2;show bindL kindOf ((p,w)::P.zip vs) m p=_;unfold bindL;rw[qz fun v hv=>(Bf.mp nd).1 (List.of_mem_zip hv).1,A8 hk];simp
 |p::P,w::vs,i+1,m,nd,h1,h2,hk=>by
  show bindL kindOf ((p,w)::P.zip vs) m x=_;unfold bindL;exact qB (i:=i) (Bf.mp nd).2 (by simpa using h1) (by simpa using h2) hk
theorem qC {kindOf:Str->O7 NameKind}{x:Str}{v:MR}:∀{P:O4 Str}{vs:O4 MR}{i:Nat}{m:Str->O7 MR},P.Nodup->P[i]? =some x->vs[i]? =some v->kindOf x≠some .local->
  bindC kindOf (P.zip vs) m x=some v
 |[],_,_,_,_,h,_,_=>by simp at h
 |_::_,[],_,_,_,_,h,_=>by simp at h
 |p::P,w::vs,0,m,nd,h1,h2,hk=>by
  simp at h1 h2;subst h1;subst h2;show bindC kindOf ((p,w)::P.zip vs) m p=_;unfold bindC;rw[qA fun v hv=>(Bf.mp nd).1 (List.of_mem_zip hv).1,A6 hk];simp
 |p::P,w::vs,i+1,m,nd,h1,h2,hk=>by
  show bindC kindOf ((p,w)::P.zip vs) m x=_;unfold bindC;exact qC (i:=i) (Bf.mp nd).2 (by simpa using h1) (by simpa using h2) hk
def start (N:O4 Str) (vs:O4 V):St:=vs.map some++List.replicate (N.length-vs.length) none
def fM (CX:CXT) (P:O0) (w:O2) (K:W.Frag) (mg:Str->O7 MR) (base:O6) (N:O4 Str) (Kg:Str) (scope:Scope) (f:OZ) (cd:MR) (A:O3) (outer:O4 Env) (s:OY) (H:Hp) (E:XK):Cx where
 prog:=P
 w:=w
 K:=K
 mg:=mg
 base:=base
 A:=A.deeper (envOfC Kg scope s.heap.objs.size f cd)
 N:=N
 s₀:=s
 H₀:=H
 env:=envOfC Kg scope s.heap.objs.size f cd
 outer:=outer
 stack:=envOfC Kg scope s.heap.objs.size f cd::outer
 ex:=[]
 calm:=true
 fn:=fun _=>true
 pn:=[]
 xe:=fun e s'=>wpAny (model P w) (A.deeper (envOfC Kg scope s.heap.objs.size f cd)) (leaving (envOfC Kg scope s.heap.objs.size f cd) e) (fun _ s''=>CX outer H s E e s'') (fun e' s''=>CX outer H s E e' s'') s'
theorem qE {sc:Scope}(h:sc.names.lookup x=some .cell):∃c,(cellsFrom n sc.names []).lookup x=some c:=by
 have q:=W.cellsFrom_some sc.names n [] (.inl h);exact Option.isSome_iff_exists.mp q
theorem x6 {f:OZ}{cd:MR}{outer:O4 Env}{s1:OY}{E:XK}
  (S:FnScope N ps scope) (hd:A.handled=none) (e0:Env0 P w K mg base A outer s H) (hl:vs.length=ps.length) (r:au vs us)
  (x:InCallC s s.heap.objs.size (bindL (envOfC Kg scope s.heap.objs.size f cd).kindOf (ps.zip us) fun _=>none) (cellsFrom (s.heap.objs.size+1) scope.names []) (bindC (envOfC Kg scope s.heap.objs.size f cd).kindOf (ps.zip us) fun _=>none) s1):
  Inv (fM CX P w K mg base N Kg scope f cd A outer s H E) [] (start N vs) H s1:=by
 have L7:ps.length<=N.length:=by have:=BN List.length S.pre;rw[Ac] at this;lia
 obtain⟨h1,tk,rfl,hk⟩:=x.done;have noA:∀b:OZ,b∉(fM CX P w K mg base N Kg scope f cd A outer s H E).ex:=fun b z=>absurd (show b∈([]:O4 OZ) from z) (by simp);refine⟨⟨e0.mod,S.kind,rfl,rfl,AB _,fun y z c h1 h2=> ?_,fun y hy=> ?_,fun y c _ h=> ?_,fun _=>hd,Around.frames_deeper e0.frames, .inr ⟨rfl,rfl⟩,fun b z=>absurd z (noA b),e0.bs,e0.bsz,fun b _ _=>noA b,fun b z=>absurd z (noA b),e0.funs,e0.frf⟩,
  rfl,e0.bare,Un.kept hk,⟨_,x.toInCall.ns,fun i y v h1 h2 h3=> ?_⟩,fun y c h=>⟨_,x.cell y c h⟩,e0.hok.fresh (AB _),fun y c h=> ?_,fun p hp=>absurd (show p∈([]:O4 (OZ×Obj)) from hp) (by simp),e0.hok.kept hk, ?_⟩
 .exact name_of_addr x.apart (C2 h1) (C2 h2)
 .have hy:scope.names.lookup y=some .cell\/scope.names.lookup y=some .free:=hy;rcases hy with hy|hy
  .exact qE hy
  .exact absurd rfl (S.nofree _ (C2 hy))
 .exact Ae (x.above y c (C2 h))
 .have hi:i<vs.length:=by
   unfold start at h2;by_cases hi:i<vs.length
   .exact hi
   .rw [BS (by simpa using hi)] at h2;rw[Co] at h2;split at h2<;>cases h2
  have ha:vs[i]? =some v:=by
   unfold start at h2;rw[Bp (by simpa using hi),AF] at h2;cases e:vs[i]? with
   |none=>rw[e] at h2;cases h2
   |some a=>rw[e] at h2;cases h2;rfl
  obtain⟨u,hu,rv⟩:=r.get ha;have hp:ps[i]? =some y:=by
   rw[<-S.pre,List.getElem?_take_of_lt (by lia)];exact h1
  have ndP:ps.Nodup:=by rw[<-S.pre];exact S.nd.sublist (List.take_sublist _ _)
  refine⟨u,rv, ?_⟩;rcases S.par y (AV hp) with k|k
  .exact .inl ⟨k,qB ndP hp hu k⟩
  .obtain⟨c,e⟩:=qE (n:=s.heap.objs.size+1) k;refine .inr ⟨.inl k,c,e, ?_⟩;have q:=x.cell y c e;rw[qC ndP hp hu (by show scope.names.lookup y≠_;rw[k];decide)] at q;exact q
 .exact e0.hok.fresh (Ae (x.above y c (C2 h)))
 .unfold start;show _=N.length;rw[A',A1,B2];lia
theorem x8 {f:OZ}{name:Str}{params:Arguments}{dV kV LJ pm Kz ct oc:MR}{an od:O7 OZ}
  {NT:Array (O7 MR)}{sp:Sp} (lk:K.lookup f=some ⟨oc,od, .func (W.fnOf name Kg params body scope dV kV LJ pm an Kz ct),NT⟩) (MJ:W.codeIn K Kz Kg=true) (S:FnScope N ps scope)
  (len:∀vs H Q E,sp vs H Q E->vs.length=ps.length)
  (LN:∀(A:O3) (outer:O4 Env) (s:OY) (H:Hp) (vs:O4 V) (Q:VK) (E:XK),Room k (A.deeper (envOfC Kg scope s.heap.objs.size f Kz))->sp vs H Q E->
   ∃t,PSs (fM CX P w K mg base N Kg scope f Kz A outer s H E) body t/\t {nx:=fun _ H'=>Q .non H',rt:=Q} (start N vs) H):
  FnOk P w K mg base CX (k+1) f (W.fnOf name Kg params body scope dV kV LJ pm an Kz ct) ps sp:=by
 refine⟨len,fun A outer s H args us vs Q E hr e0 hb r NU=> ?_⟩;have hl:=len _ _ _ _ NU;have KX:K.In s.heap:=e0.mod.kin.keeps fun b o e=>(e0.bs b o e).1;have lim:s.heap.NoLimit:=e0.mod.nolimit.keeps fun b o e=>(e0.bs b o e).1;have KM:∀y∈ps.zip us,scope.names.lookup y.1=some .local\/(scope.names.lookup y.1=some .cell/\((cellsFrom (s.heap.objs.size+1) scope.names []).lookup y.1).isSome=true):=fun⟨n,v⟩ hy=>by
  rcases S.par n (List.of_mem_zip hy).1 with q|q
  .exact .inl q
  .exact .inr ⟨q,W.cellsFrom_some _ _ _ (.inl q)⟩
 refine codeAny_call_function hr.depth (KX _ _ lk) rfl S.co S.gen rfl (W.codeRec_of KX MJ) (hb _ _ _ _ ?_);refine wpAny_newFunctionEnv_cells S.kind KM fun env he s1 x=> ?_;subst he;refine⟨lim.keeps x.toInCall.keep,codeAny_func ?_⟩;obtain⟨t,ht,hq⟩:=LN A outer s H vs Q E (hr.deeper _) NU;have I:Inv (fM CX P w K mg base N Kg scope f Kz A outer s H E) [] (start N vs) H s1:=x6 S hr.hd e0 hl r x;refine Bm (ht [] s1 (start N vs) H _ I hq) (fun fl s' hs=> ?_) fun e s' hs=>hs;have fin:∀{σ':St}{H':Hp}{v:V}{u:MR},Inv (fM CX P w K mg base N Kg scope f Kz A outer s H E) [] σ' H' s'->av v u->Q v H'->CE outer P w H s Q u s':=
  fun{σ' H' v u} J rv q=>⟨v,H',J.os,J.bare,J.base,J.hok,rv,q⟩
 cases fl with
 |ret u=>
  obtain⟨v,σ',H',J,rv,q⟩:=hs;exact fin J rv q
 |next=>
  obtain⟨σ',H',J,q⟩:=hs;exact fin (v:=V.non) (u:=Value.none) J rfl q
 |brk=>
  obtain⟨_,_,_,q⟩:=hs;exact False.elim q
 |cont=>
  obtain⟨_,_,_,q⟩:=hs;exact False.elim q
section
variable {X:Cx}{x:Str}{p pos:Pos}{e:O5}{es:O4 O5}{t:TA}{id T:String}{r:O4 V->Hp->VK->Prop}
def tCB (r:O4 V->Hp->VK->Prop) (t:TA):TE:=fun σ H Q=>t σ H fun vs H1=>r vs H1 Q
theorem bi (hc:bL X (.builtin id) r) (hg:Gl X x) (hm:X.mg x=none) (hv:bootBuiltins x=some (.builtin id)) (ha:PA X (e::es) t) (hn:x≠"__name__":=by decide) (MK:(x==("__debug__":Str))=false:=by decide)
  (he:starEach (e::es) X.env=(false,eval e X.env)::starEach es X.env:=by rfl) (L7:(backTo pos (starEach es X.env)).any (·.1)=false:=by rfl):PE X (.Call (.Name x p) (e::es) [] pos) (tCB r t):=by
 intro J' s σ H Q I h;refine Bn (dg I hg hm hv ?_ hn MK);exact D5 (thn (ha pos J' s σ H _ I h) fun us s1 ⟨vs,H1,I1,r1,q1⟩=>hc J' s1 σ H1 vs us Q I1 r1 q1) he L7
theorem gu (hc:bL X (.type T) r) (hg:Gl X x) (hm:X.mg x=none) (hv:bootBuiltins x=some (.type T)) (ha:PA X (e::es) t) (hn:x≠"__name__":=by decide) (MK:(x==("__debug__":Str))=false:=by decide)
  (he:starEach (e::es) X.env=(false,eval e X.env)::starEach es X.env:=by rfl) (L7:(backTo pos (starEach es X.env)).any (·.1)=false:=by rfl):PE X (.Call (.Name x p) (e::es) [] pos) (tCB r t):=by
 intro J' s σ H Q I h;refine Bn (dg I hg hm hv ?_ hn MK);exact BH (thn (ha pos J' s σ H _ I h) fun us s1 ⟨vs,H1,I1,r1,q1⟩=>hc J' s1 σ H1 vs us Q I1 r1 q1) he L7
end
end L2
namespace HT
open PySem PyProof.Rows
variable {Q:MR->OY->Prop}{hi lo:O7 Int}{sl:OZ}{vl vu:MR}
section
open PySem.SeqAt
open PySem.AutoSeq1 (wpAny_loadPart')
open PySem.MeetsSeq PySem.MeetsSeq2 PySem.MeetsSeq3
end
section
variable {prog:O0}{w:O2}{A:O3}{E:MR->OY->Prop}{s:OY}
theorem cat_tup {t b:OZ}{vs ws:O4 MR}(ht:IsTup s.heap t vs.toArray) (hb:IsTup s.heap b ws.toArray) (hv:vs≠[])
  (h1:ws=[]->Q (.ref t) s) (h2:ws≠[]->Q (.ref s.heap.objs.size) {s with heap:=s.heap.push {cls:= .type "tuple",data:= .seq (vs++ws).toArray}})
  (hsz:vs.length+ws.length<=sizeLine):wpAny (model prog w) A (binaryOp .Add (.ref t) (.ref b)) Q E s:=by
 obtain⟨⟨cls,dd,data,sl⟩,ho,hc,n,hd⟩:=id ht;obtain⟨⟨Nt,LO,data2,LP⟩,K5,LQ,n2,Lw⟩:=id hb;simp only at hc hd LQ Lw;subst hc hd LQ Lw;have e:vs.toArray++ws.toArray=(vs++ws).toArray:=by simp
 by_cases hw:ws=[]
 .exact concat_meets ⟨_,ho,rfl⟩ ⟨_,K5,rfl⟩ noFill_tuple_add seq_tuple_add PySem.F.slot_tuple_add PySem.F.entry_tuple_add (PySem.F.args_tuple_add_2 _ _)
   (tuple_addW1 t b vs.toArray ws.toArray n n2 dd LO sl LP (by simpa using hv) (by simp[hw])) ⟨ho,K5,h1 hw⟩
 .refine concat_meets ⟨_,ho,rfl⟩ ⟨_,K5,rfl⟩ noFill_tuple_add seq_tuple_add PySem.F.slot_tuple_add PySem.F.entry_tuple_add (PySem.F.args_tuple_add_2 _ _)
   (tuple_addW2 t b vs.toArray ws.toArray n n2 dd LO sl LP (by simpa using hv) (by simpa using hw) (by rw[AE,AE];exact hsz)) ⟨ho,K5, ?_⟩
  rw[e];exact h2 hw
def sIx (n d:Nat):O7 Int->Nat
 |none=>d
 |some v=>if v<0 then(v+(n:Int)).toNat else min v.toNat n
def sIx_none (n d:Nat):sIx n d none=d:=rfl
theorem sIx_nat (n d k:Nat):sIx n d (some (k:Int))=min k n:=by
 show(if(k:Int)<0 then((k:Int)+(n:Int)).toNat else min (k:Int).toNat n)=min k n;rw[A6 (by lia),An]
theorem x9 (n d:Nat) (hd:d<=n) (o:O7 Int):sIx n d o<=n:=by
 cases o with
 |none=>exact hd
 |some v=>
  show(if v<0 then(v+(n:Int)).toNat else min v.toNat n)<=n;by_cases hv:v<0
  .rw [A8 hv];lia
  .rw [A6 hv];exact Nat.min_le_right _ _
theorem qF (v:Int) (n d:Nat):(if v<0 then max (v+(n:Int)) 0 else min v (n:Int))=((sIx n d (some v):Nat):Int):=by
 show(if v<0 then max (v+(n:Int)) 0 else min v (n:Int))=(((if v<0 then(v+(n:Int)).toNat else min v.toNat n):Nat):Int);by_cases hv:v<0
 .simp only[A8 hv];lia
 .simp only[A6 hv];lia
theorem yb (lo hi:O7 Int) (n:Nat):Builtin.Slice.sliceAdjust lo hi 1 (n:Int)=(((sIx n 0 lo:Nat):Int),((sIx n n hi:Nat):Int)):=by
 have h1:¬((1:Int)<0):=by lia
 unfold Builtin.Slice.sliceAdjust;simp only[h1,Am];refine Prod.ext ?_ ?_
 .cases lo with
  |none=>rfl
  |some v=>exact qF v n 0
 .cases hi with
  |none=>rfl
  |some v=>exact qF v n n
theorem yc (i j:Nat):Builtin.Slice.slicePlaces (i:Int) (j:Int) 1=j-i:=by
 unfold Builtin.Slice.slicePlaces;have h1:(1:Int)>0:=by lia
 simp only[h1,C1,Int.ediv_one];split<;>lia
theorem qG {v:MR}{o:O7 Int}{Q:O7 Int->OY->Prop} (p:IsPart v o) (h:Q o s):wpAny (model prog w) A (Builtin.Slice.slicePartIndex v) Q E s:=by
 cases p with
 |none=>exact slicePart_none h
 |int i t=>exact slicePart_int h
theorem qH {n:Nat}{Q:Int×Int×Nat->OY->Prop} (hs:s.heap.IsSliceOf sl vl vu .none) (pl:IsPart vl lo) (pu:IsPart vu hi)
  (h:Q (((sIx n 0 lo:Nat):Int),1,sIx n n hi-sIx n 0 lo) s):wpAny (model prog w) A (Builtin.Slice.sliceApplied (.ref sl) (pure (n:Int))) Q E s:=by
 obtain⟨os,Od,hcs,hds⟩:=id hs;unfold Builtin.Slice.sliceApplied Builtin.Slice.sliceFields;refine A0 (A0 (Bg Od hds (x:=vl) rfl (A0 (Bg Od hds (x:=vu) rfl (A0 (Bg Od hds (x:= .none) rfl (A3 ?_)))))));refine A0 (slicePart_none ?_);show wpAny _ _ (if((1:Int)==0)=true then _ else _) _ _ s;rw[A6 (by decide)];refine A0 (qG pl (A0 (qG pu (A0 (A3 ?_)))));show wpAny _ _ (match Builtin.Slice.sliceAdjust lo hi 1 (n:Int) with|(lo,hi)=>pure (lo,(1:Int),Builtin.Slice.slicePlaces lo hi 1)) _ _ s;rw[yb lo hi n];show wpAny _ _ (pure (((sIx n 0 lo:Nat):Int),(1:Int),Builtin.Slice.slicePlaces ((sIx n 0 lo:Nat):Int) ((sIx n n hi:Nat):Int) 1)) _ _ s;rw[yc];exact A3 h
theorem yd (xs:Array MR) (i k:Nat):((List.range k).filterMap fun(m:Nat)=>xs[((i:Int)+(m:Int)*1).toNat]?).toArray=((xs.toList.drop i).take k).toArray:=by
 have e:(fun(m:Nat)=>xs[((i:Int)+(m:Int)*1).toNat]?)=fun m=>xs[i+m]? :=by
  funext m
  have:((i:Int)+(m:Int)*1).toNat=i+m:=by lia
  rw[this]
 rw[e];have:=pick_run xs i k;rw[List.filterMap_map] at this;have e2:((fun x=>xs[x]?)∘fun x=>i+x)=fun m=>xs[i+m]? :=rfl;rw[e2] at this;rw[this]
theorem getItem_tuple_cut {t:OZ}{items:Array MR}(ht:IsTup s.heap t items) (hs:s.heap.IsSliceOf sl vl vu .none) (pl:IsPart vl lo) (pu:IsPart vu hi)
  (hw:¬(sIx items.size 0 lo=0/\sIx items.size items.size hi=items.size))
  (h:Q (.ref s.heap.objs.size) {s with heap:=s.heap.push {cls:= .type "tuple",data:= .seq ((items.toList.drop (sIx items.size 0 lo)).take (sIx items.size items.size hi-sIx items.size 0 lo)).toArray}})
  (hsz:items.size<=sizeLine):wpAny (model prog w) A (getItem (.ref t) (.ref sl)) Q E s:=by
 have Mq:sizeOk (.seq ((items.toList.drop (sIx items.size 0 lo)).take (sIx items.size items.size hi-sIx items.size 0 lo)).toArray):=by
  show((items.toList.drop (sIx items.size 0 lo)).take (sIx items.size items.size hi-sIx items.size 0 lo)).toArray.size<=sizeLine;rw[AE,Ac,Bk,BC];lia
 have hj:sIx items.size items.size hi<=items.size:=x9 _ _ (AB _) hi;obtain⟨os,Od,hcs,hds⟩:=id hs;have hTs:s.TypeIs (.ref sl) "slice":=⟨os,Od,hcs⟩;unfold getItem;try with_reducible refine Az ?_
 first|refine A0 (A3 ?_)|skip
 refine A0 (wpAny_sequenceKey ht.typeIs (by decide) ?_);refine A0 (B3 (name:=Str.ofString "__getitem__") ht.typeIs BQ
  (Ai BQ ht.typeIs entry_tuple_getitem ?_ (args_tuple_getitem _ _)))
 show wpAny _ _ (Builtin.Tuple.tupleItemsOf (.ref t)>>=_) _ _ s;refine A0 (tupleItemsOf_ ht ?_);refine A0 (DW hTs ?_);rw[A8 (by decide)];refine A0 (qH hs pl pu ?_);have hno:¬((((sIx items.size 0 lo:Nat):Int)==0&&(1:Int)==1&&(sIx items.size items.size hi-sIx items.size 0 lo)==items.size)=true):=by
  intro q;rw[A9,A9] at q;have q1:((sIx items.size 0 lo:Nat):Int)=0:=eq_of_beq q.1.1;have q2:sIx items.size items.size hi-sIx items.size 0 lo=items.size:=eq_of_beq q.2;exact hw ⟨by lia,by lia⟩
 show wpAny _ _ (if(((sIx items.size 0 lo:Nat):Int)==0&&(1:Int)==1&&(sIx items.size items.size hi-sIx items.size 0 lo)==items.size)=true then _ else _) _ _ s;rw[A6 hno,yd];first
  |exact A0 (m:=Builtin.Tuple.tupleExact _) (Au (A3 ⟨_,rfl,A3 h⟩) Mq)
  |exact A0 (m:=Builtin.Tuple.tupleExact _) (Au (A0 (A3 (A3 ⟨_,rfl,A3 h⟩))) Mq)
  |exact A0 (A0 (m:=Builtin.Tuple.tupleExact _) (Au (A3 (A3 ⟨_,rfl,A3 h⟩)) Mq))
  |exact A0 (A0 (m:=Builtin.Tuple.tupleExact _) (Au (A3 ⟨_,rfl,A3 h⟩) Mq))
end
end HT
namespace L2
open PySem PySem.Spec PyProof.Rows
variable {H:Hp}{J':O4 (OZ×Obj)}{i:Int}{j n:Nat}{s:OY}{xs:O4 V}
abbrev TO:=St->Hp->(O7 Int->Hp->Prop)->Prop
def PO (X:Cx) (e:O7 O5) (t:TO):Prop:=
 ∀(J':O4 (OZ×Obj)) (s:OY) (σ:St) (H:Hp) (Q:O7 Int->Hp->Prop),Inv X J' σ H s->t σ H Q->
  wpAny (model X.prog X.w) X.A (evalPart e X.env) (fun u s'=>∃o H',Inv X J' σ H' s'/\IsPart u o/\Q o H') X.xe s
def ye:TO:=fun _ H Q=>Q none H
inductive tPart_ (Q:(Option Int->Hp->Prop)) (x:V) (H1:Hp):Prop
 |mk i:x= .int i->Q (some i) H1->tPart_ Q x H1
def yf (t:TE):TO:=fun σ H Q=>t σ H fun x H1=>tPart_ Q x H1
theorem jA {ns:O4 Int}:∀{us:O4 MR},au (ns.map V.int) us->IntsAre us ns:=by
 induction ns with
 |nil=>intro us r;rw[List.map_nil] at r;cases r;exact .nil
 |cons n ns ih=>
  intro us r;rw[AK] at r;cases r with
  |cons r1 r2=>
   obtain⟨t,e⟩:=r1;subst e;exact .cons n t (ih r2)
section
variable {X:Cx}{e:O5}{te:TE}{lo hi:O7 O5}{tl th:TO}{pos p2:Pos}
theorem dU:PO X none ye:=by
 intro J' s σ H Q I h;rw[evalPart_none];exact A3 ⟨none,H,I, .none,h⟩
theorem dh (h:PE X e te):PO X (some e) (yf te):=by
 intro J' s σ H Q I hw;rw[evalPart_some];refine thn (h J' s σ H _ I hw) fun u s1 ⟨x,H1,I1,r1,q1⟩=> ?_;obtain⟨i,rfl,q⟩:=q1;obtain⟨t,rfl⟩:=r1;exact⟨some i,H1,I1, .int i t,q⟩
def SlR (X:Cx) (r:V->O7 Int->O7 Int->Hp->VK->Prop):Prop:=
 ∀(J':O4 (OZ×Obj)) (s:OY) (σ:St) (H:Hp) (x:V) (v vl vu:MR) (lo hi:O7 Int) (sl:OZ) (Q:VK),Inv X J' σ H s->av x v->s.heap.IsSliceOf sl vl vu .none->IsPart vl lo->IsPart vu hi->r x lo hi H Q->
  ∃T id,typeLookup (.type T) "__getitem__"=pure (some (.builtin id))/\s.TypeIs v T/\wpAny (model X.prog X.w) X.A (getItem v (.ref sl)) (EP X J' σ Q) X.xe s
def tSl (r:V->O7 Int->O7 Int->Hp->VK->Prop) (te:TE) (tl th:TO):TE:=fun σ H Q=>te σ H fun x H1=>tl σ H1 fun l H2=>th σ H2 fun u H3=>r x l u H3 Q
theorem dA {r:V->O7 Int->O7 Int->Hp->VK->Prop} (hr:SlR X r) (he:PE X e te) (hl:PO X lo tl) (hu:PO X hi th):PE X (.Subscript e (.Slice lo hi none p2) pos) (tSl r te tl th):=by
 intro J' s σ H Q I h;refine Subscript_ (thn (he J' s σ H _ I h) fun v s1 ⟨x,H1,I1,r1,q1⟩=> ?_);refine wpAny_Slice (thn (hl J' s1 σ H1 _ I1 q1) fun vl s2 ⟨l,H2,I2,pl,q2⟩=>thn (hu J' s2 σ H2 _ I2 q2) fun vu s3 ⟨u,H3,I3,pu,q3⟩=> ?_);rw[evalPart_none];refine A3 ?_;have I4:Inv X J' σ H3 {s3 with heap:=s3.heap.push {cls:= .type "slice",data:= .fields #[vl,vu, .none]}}:=I3.kept (t':=s3.toks) fun b ob q=>A4 _ q;obtain⟨T,id,hT,ht,hg⟩:=hr J' {s3 with heap:=s3.heap.push {cls:= .type "slice",data:= .fields #[vl,vu, .none]}} σ H3 x v vl vu l u s3.heap.objs.size Q I4 r1 (Heap.IsSliceOf.new ..) pl pu q3;show wpAny (model X.prog X.w) X.A (subscriptTail e (.Slice lo hi none p2) v (.ref s3.heap.objs.size)) (EP X J' σ Q) X.xe {s3 with heap:=s3.heap.push {cls:= .type "slice",data:= .fields #[vl,vu, .none]}};exact tail_any (ops:=[.ref s3.heap.objs.size,v]) ht hT hg (by with_unfolding_all rfl)
def b8 (xs:O4 V) (lo hi:O7 Int):O4 V:=(xs.drop (HT.sIx xs.length 0 lo)).take (HT.sIx xs.length xs.length hi-HT.sIx xs.length 0 lo)
theorem qI (xs:O4 V) (lo hi:O7 Int):(b8 xs lo hi).length<=xs.length:=by
 unfold b8;rw[Ac,Bk];lia
inductive rSlT (K:W.Frag) (x:V) (lo:Option Int) (hi:Option Int) (H:Hp) (Q:VK):Prop
 |mk a xs:x= .ref a->SqT K H a xs->¬(HT.sIx xs.length 0 lo=0/\HT.sIx xs.length xs.length hi=xs.length)->(∀p,H p=none->Q (.ref p) (upd H p (.tup (b8 xs lo hi))))->rSlT K x lo hi H Q
theorem yg:SlR X (rSlT X.K):=by
 intro J' s σ H x v vl vu lo hi sl Q I rx hs pl pu h;obtain⟨a,xs,rfl,hx,hw,q⟩:=h;cases rx;obtain⟨Kd,r,ht,hz⟩:=I.tuple hx;have Ke:Kd.toArray.size=xs.length:=by rw[AE];exact r.length.symm
 refine⟨"tuple",_,BQ.lookup,ht.typeIs, ?_⟩;refine HT.getItem_tuple_cut ht hs pl pu (by rw[Ke];exact hw) ?_ (by rw[Ke];exact hz);rw[Ke];refine⟨.ref s.heap.objs.size,_,I.laid (t':=s.toks) (o:= .tup (b8 xs lo hi)) (fun b ob q=>A4 _ q) (AB _) ?_,rfl,q _ (I.hok.fresh (AB _))⟩;exact⟨B7 (qI xs lo hi) hz,_,(r.drop (HT.sIx xs.length 0 lo)).take (HT.sIx xs.length xs.length hi-HT.sIx xs.length 0 lo),IsTup.new _ _⟩
inductive rCatT (K:W.Frag) (x:V) (y:V) (H:Hp) (Q:VK):Prop
 |mk a b xs ys:x= .ref a->y= .ref b->SqT K H a xs->SqT K H b ys->xs≠[]->xs.length+ys.length<=sizeLine->((ys=[]->Q (.ref a) H))->((ys≠[]->∀p,H p=none->Q (.ref p) (upd H p (.tup (xs++ys)))))->rCatT K x y H Q
theorem au.nil_iff {us:O4 MR} (r:au xs us):us=[]↔xs=[]:=by
 cases r with
 |nil=>simp
 |cons _ _=>simp
theorem yh:OpR X (binaryOp .Add) (rCatT X.K):=by
 intro J' s σ H x y v u Q I rx ry h;obtain⟨a,b,xs,ys,rfl,rfl,ha,hb,hx,hz,q1,q2⟩:=h;cases rx;cases ry;obtain⟨Kd,r1,p1,_⟩:=I.tuple ha;obtain⟨LA,r2,p2,_⟩:=I.tuple hb;refine HT.cat_tup p1 p2 (fun z=>hx (r1.nil_iff.mp z)) (fun z=>⟨.ref a,H,I,rfl,q1 (r2.nil_iff.mp z)⟩) (fun z=> ?_) (by rw[<-r1.length,<-r2.length];exact hz);refine⟨.ref s.heap.objs.size,_,I.laid (t':=s.toks) (o:= .tup (xs++ys)) (fun b ob q=>A4 _ q) (AB _) ?_,rfl,q2 (fun w=>z (r2.nil_iff.mpr w)) _ (I.hok.fresh (AB _))⟩;exact⟨by rw[A'];exact hz,_,r1.append r2,IsTup.new _ _⟩
end
def ixN (n:Nat) (i:Int):O7 Nat:=if 0<=i then(if i<n then some i.toNat else none) else if -(n:Int)<=i then some (i+n).toNat else none
def atI {α:Type} (xs:O4 α) (i:Int):O7 α:=(ixN xs.length i).bind fun j=>xs[j]?
theorem qJ (h:ixN n i=some j):seqIndex? i n=some j/\j<n/\-(n:Int)<=i/\i<n:=by
 unfold ixN at h;by_cases h0:0<=i
 .rw [A8 h0] at h;by_cases h1:i<n
  .rw [A8 h1] at h;have e:i.toNat=j:=Ao h;exact⟨by rw[seqIndex_of h0 h1,e],by lia,by lia,h1⟩
  .rw [A6 h1] at h;cases h
 .rw [A6 h0] at h;by_cases h1: -(n:Int)<=i
  .rw [A8 h1] at h;have e:(i+n).toNat=j:=Ao h;exact⟨by rw[seqIndex_neg (by lia) h1,e],by lia,h1,by lia⟩
  .rw [A6 h1] at h;cases h
theorem qK {α:Type}{xs:O4 α}{v:α} (h:atI xs i=some v):∃j,seqIndex? i xs.length=some j/\xs[j]? =some v/\j<xs.length/\-(xs.length:Int)<=i/\i<xs.length:=by
 unfold atI at h;cases e:ixN xs.length i with
 |none=>rw[e] at h;cases h
 |some j=>
  rw[e] at h;obtain⟨h1,h2,h3,h4⟩:=qJ e;exact⟨j,h1,h,h2,h3,h4⟩
theorem jB {α:Type}{xs:O4 α}{v:α} (h:xs[j]? =some v):atI xs (j:Int)=some v:=by
 have hj:j<xs.length:=(AD.mp h).1;have e:ixN xs.length (j:Int)=some j:=by
  unfold ixN;rw[A8 (by lia),A8 (by lia)];simp
 unfold atI;rw[e];exact h
def yi (b:O5):Prop:=∀o i,subscripted b false o i=operate [o,i] (getItem o i)
def IxR (X:Cx) (r:R2):Prop:=
 ∀(value Kw:O5) (J':O4 (OZ×Obj)) (s:OY) (σ:St) (H:Hp) (x y:V) (v u:MR) (Q:VK),Inv X J' σ H s->av x v->av y u->r x y H Q->
  subscripted Kw false v u=operate [v,u] (getItem v u)->wpAny (model X.prog X.w) X.A (subscriptTail value Kw v u) (EP X J' σ Q) X.xe s
def MtR (X:Cx) (id:String) (r:V->O4 V->Hp->VK->Prop):Prop:=
 ∀(J':O4 (OZ×Obj)) (s:OY) (σ:St) (H:Hp) (x:V) (xs:O4 V) (v:MR) (us:O4 MR) (Q:VK),Inv X J' σ H s->av x v->au xs us->r x xs H Q->
  wpAny (model X.prog X.w) X.A (call (.builtin id) (v::us)) (EP X J' σ Q) X.xe s
section
variable {X:Cx}{a b:O5}{ta tb:TE}{pos:Pos}
theorem aw {r:R2} (hr:IxR X r) (ha:PE X a ta) (hb:PE X b tb) (hs:yi b):PE X (.Subscript a b pos) (tOp r ta tb):=by
 intro J' s σ H Q I h;exact Subscript_ (k8 ha hb I h fun v u s2 x y H2 I2 rx ry q=>hr a b J' s2 σ H2 x y v u Q I2 rx ry q (hs _ _))
inductive rIxL (K:W.Frag) (x:V) (y:V) (H:Hp) (Q:VK):Prop
 |mk p xs i v:x= .ref p->y= .int i->SqL K H p xs->atI xs i=some v->Q v H->rIxL K x y H Q
inductive rIxT (K:W.Frag) (x:V) (y:V) (H:Hp) (Q:VK):Prop
 |mk p xs i v:x= .ref p->y= .int i->SqT K H p xs->atI xs i=some v->Q v H->rIxT K x y H Q
theorem cC:IxR X (rIxL X.K):=by
 intro value Kw J' s σ H x y v u Q I rx ry h hs;obtain⟨p,xs,i,z,rfl,rfl,hq,he,q⟩:=h;cases rx;obtain⟨t,rfl⟩:=ry;obtain⟨Kd,r,pl,hz⟩:=I.list hq;obtain⟨j,h1,h2,h3,h4,h5⟩:=qK he;obtain⟨w,ew,LB⟩:=r.get h2;have hl:=r.length;have hn:=fL;have fin:EP X J' σ Q w s:=⟨z,H,I,LB,q⟩;by_cases h0:0<=i
 .have hj:i.toNat=j:=by
   rw[seqIndex_of h0 h5] at h1;exact Ao h1
  exact item_listR pl.isList h0 (by lia) (by rw[hj];simpa using ew) fin hs
 .have hj:(i+(Kd.toArray.size:Int)).toNat=j:=by
   rw[seqIndex_neg (by lia) h4] at h1;rw[AE,<-hl];exact Ao h1
  exact subscriptTail_builtinR (x:=w) pl.isList.typeIs slot_list_getitem.lookup
   (wpAny_getItem_list_neg (Q:=fun r s'=>r=w/\EP X J' σ Q r s') pl.isList (by lia) (by rw[AE]<;>lia) (by lia) (by rw[hj];simpa using ew) ⟨rfl,fin⟩) hs
theorem yj:IxR X (rIxT X.K):=by
 intro value Kw J' s σ H x y v u Q I rx ry h hs;obtain⟨p,xs,i,z,rfl,rfl,hq,he,q⟩:=h;cases rx;obtain⟨t,rfl⟩:=ry;obtain⟨Kd,r,pl,hz⟩:=I.tuple hq;obtain⟨j,h1,h2,h3,h4,h5⟩:=qK he;obtain⟨w,ew,LB⟩:=r.get h2;have hl:=r.length;have hn:=fL;have fin:EP X J' σ Q w s:=⟨z,H,I,LB,q⟩;exact subscriptTail_builtinR (x:=w) pl.typeIs slot_tuple_getitem.lookup
  (getItem_tuple (j:=j) (Q:=fun r s'=>r=w/\EP X J' σ Q r s') pl (by lia) (by lia) (by rw[AE,<-hl];exact h1) (by simpa using ew) ⟨rfl,fin⟩) hs
theorem yk (Kd:O4 MR) (n j:Nat) (u:MR):Obj.mapSeq (·.setIfInBounds j u) {cls:= .type "list",data:= .seq Kd.toArray n}={cls:= .type "list",data:= .seq (Kd.set j u).toArray n}:=by
 simp[Obj.mapSeq]
theorem Inv.lst {J':O4 (OZ×Obj)}{σ:St}{H:Hp}{s:OY}{p:OZ}{xs:O4 V} (I:Inv X J' σ H s) (h:H p=some (.lst xs)):
  ∃(Kd:O4 MR) (n:Nat),au xs Kd/\s.heap.get? p=some {cls:= .type "list",data:= .seq Kd.toArray n}/\xs.length<=sizeLine:=by
 obtain⟨z,Kd,n,r,e⟩:=I.hok p _ h;exact⟨Kd,n,r,e,z⟩
theorem Inv.lstUpd {σ:St}{p:OZ}{ys:O4 V}{Kd its':O4 MR}{n n':Nat}{f:Obj->Obj} (I:Inv X J' σ H s) (h:H p=some (.lst xs))
  (ho:s.heap.get? p=some {cls:= .type "list",data:= .seq Kd.toArray n}) (hf:f {cls:= .type "list",data:= .seq Kd.toArray n}={cls:= .type "list",data:= .seq its'.toArray n'}) (r:au ys its') (hz:ys.length<=sizeLine) (t:Nat):
  Inv X J' σ (upd H p (.lst ys)) {s with heap:=s.heap.update p f,toks:=t}:=by
 have e:(s.heap.update p f).get? p=some {cls:= .type "list",data:= .seq its'.toArray n'}:=by
  rw[CK f ho (by rw[hf]<;>rfl),hf]
 refine I.write (x:=p) (e:=p) (by rw[h];trivial) (.inl rfl) (fun b u hb q=>(Heap.get?_update_other _ _ (Ne.symm hb)).trans q) ⟨_,e⟩ ?_;exact⟨hz,its',n',r,e⟩
inductive rSetL (o:V) (i:V) (v:V) (H:Hp) (Q:(Hp->Prop)):Prop
 |mk p xs k j:o= .ref p->i= .int k->H p=some (.lst xs)->ixN xs.length k=some j->Q (upd H p (.lst (xs.set j v)))->rSetL o i v H Q
theorem jC:kZ X rSetL:=by
 intro J' s σ H o i v ov iv u Q I ro ri rv h;obtain⟨p,xs,k,j,rfl,rfl,hp,hj,q⟩:=h;cases ro;obtain⟨t,rfl⟩:=ri;obtain⟨Kd,n,r,ho,hz⟩:=I.lst hp;obtain⟨h1,h2,h3,h4⟩:=qJ hj;have hl:=r.length;have hn:=fL;have I':Inv X J' σ (upd H p (.lst (xs.set j v))) {s with heap:=s.heap.update p (Obj.mapSeq (·.setIfInBounds j u))}:=
  I.lstUpd hp ho (yk Kd n j u) (r.set rv j) (by rw[BU];exact hz) s.toks
 by_cases h0:0<=k
 .have hk:k.toNat=j:=by
   rw[seqIndex_of h0 h4] at h1;exact Ao h1
  exact W.ki_setAt ho h0 (by lia) (by rw[AE,<-hl];exact h4) (by rw[hk];exact⟨_,I',q⟩)
 .have hk:(k+(Kd.toArray.size:Int)).toNat=j:=by
   rw[seqIndex_neg (by lia) h3] at h1;rw[AE,<-hl];exact Ao h1
  exact W.ki_setBack ho (by lia) (by rw[AE,<-hl];exact h3) (by lia) (by rw[hk];exact⟨_,I',q⟩)
theorem yl (lo hi:O7 Int) (n:Nat):(sliceBounds lo hi none n).1=((HT.sIx n 0 lo:Nat):Int)/\(sliceBounds lo hi none n).2.1=((HT.sIx n n hi:Nat):Int)/\(sliceBounds lo hi none n).2.2=1:=by
 refine⟨?_, ?_,rfl⟩
 .cases lo with
  |none=>simp[sliceBounds,HT.sIx]
  |some i=>
   simp only[sliceBounds,HT.sIx,Option.getD_none,show(1:Int)>0 by decide,C1];by_cases h:i<0
   .simp only[h,C1]<;>lia
   .simp only[h,Am]<;>lia
 .cases hi with
  |none=>simp[sliceBounds,HT.sIx]
  |some i=>
   simp only[sliceBounds,HT.sIx,Option.getD_none,show(1:Int)>0 by decide,C1];by_cases h:i<0
   .simp only[h,C1]<;>lia
   .simp only[h,Am]<;>lia
theorem ym (Kd:O4 MR) (lo hi:O7 Int):slicePick Kd.toArray lo hi none=((Kd.drop (HT.sIx Kd.length 0 lo)).take (HT.sIx Kd.length Kd.length hi-HT.sIx Kd.length 0 lo)).toArray:=by
 obtain⟨h1,h2,h3⟩:=yl lo hi Kd.toArray.size;unfold slicePick;rw[h1,h2,h3];simp only[sliceRange_one,pick_run,AE]<;>rfl
inductive rSlL (K:W.Frag) (x:V) (lo:Option Int) (hi:Option Int) (H:Hp) (Q:VK):Prop
 |mk a xs:x= .ref a->SqL K H a xs->(∀p,H p=none->Q (.ref p) (upd H p (.lst (b8 xs lo hi))))->rSlL K x lo hi H Q
theorem eP:SlR X (rSlL X.K):=by
 intro J' s σ H x v vl vu lo hi sl Q I rx hs pl pu h;obtain⟨a,xs,rfl,hx,q⟩:=h;cases rx;obtain⟨Kd,r,ht,hz⟩:=I.list hx;have Ke:=r.length;refine⟨"list",_,slot_list_getitem.lookup,ht.isList.typeIs, ?_⟩;refine wpAny_getItem_list_slice ht.isList hs pl pu .none (by simp) ?_ (by rw[AE]<;>lia)
 rw[ym,<-Ke];refine⟨.ref s.heap.objs.size,_,I.laid (t':=s.toks) (o:= .lst (b8 xs lo hi)) (fun b ob q=>A4 _ q) (AB _) ?_,rfl,q _ (I.hok.fresh (AB _))⟩;exact⟨B7 (qI xs lo hi) hz,_,0,(r.drop (HT.sIx xs.length 0 lo)).take (HT.sIx xs.length xs.length hi-HT.sIx xs.length 0 lo),AI _ rfl⟩
theorem jD:bL X (.builtin "len") (fun xs H Q=>∃p ys,xs=[.ref p]/\(SqL X.K H p ys\/SqT X.K H p ys)/\Q (.int ys.length) H):=by
 intro J' s σ H xs us Q I r h;obtain⟨p,ys,rfl,hq,q⟩:=h;obtain⟨u,rfl,rx⟩:=cB r;cases rx;have hn:=fL;rcases hq with hq|hq
 .obtain⟨Kd,r',pl,hz⟩:=I.list hq;have Ke:=r'.length;exact Calls.call_len_list pl.isList (by simp only[AE]<;>lia) ⟨.int ys.length,H,I.tok _,⟨s.toks+1,by rw[AE,Ke]⟩,q⟩
 .obtain⟨Kd,r',pl,hz⟩:=I.tuple hq;have Ke:=r'.length;exact len_tuple pl (by simp only[AE]<;>lia) ⟨.int ys.length,H,I.tok _,⟨s.toks+1,by rw[AE,Ke]⟩,q⟩
theorem yn:bL X (.type "list") (fun xs H Q=>∃p ys,xs=[.ref p]/\(SqL X.K H p ys\/SqT X.K H p ys)/\∀l,H l=none->Q (.ref l) (upd H l (.lst ys))):=by
 intro J' s σ H xs us Q I r h;obtain⟨p,ys,rfl,hq,q⟩:=h;obtain⟨u,rfl,rx⟩:=cB r;cases rx;have fin:∀(Kd:O4 MR),au ys Kd->ys.length<=sizeLine->∀(h':O6) (c':Nat),(∀b o',s.heap.get? b=some o'->h'.get? b=some o')->
   h'.get? s.heap.objs.size=some {cls:= .type "list",dict:=none,data:= .seq Kd.toArray c',slots:= #[]}->EP X J' σ Q (.ref s.heap.objs.size) {s with heap:=h'}:=fun Kd r' hz h' c' kp e=>
  ⟨.ref s.heap.objs.size,_,I.laid (t':=s.toks) kp (AB _) (show aI X.prog X.w _ h' _ (.lst ys) from⟨hz,Kd,c',r',e⟩),rfl,q _ (I.hok.fresh (AB _))⟩
 rcases hq with hq|hq
 .obtain⟨Kd,r',pl,hz⟩:=I.list hq;have Ke:=r'.length;obtain⟨o,ho,hc,n,hd⟩:=pl.isList;exact call_list_seq p (.inl rfl) ho hc hd (fun h' c' kp e=>fin Kd r' hz h' c' kp e) (by simp only[AE]<;>lia)
 .obtain⟨Kd,r',pl,hz⟩:=I.tuple hq;have Ke:=r'.length;obtain⟨o,ho,hc,n,hd⟩:=pl;exact call_list_seq p (.inr rfl) ho hc hd (fun h' c' kp e=>fin Kd r' hz h' c' kp e) (by simp only[AE]<;>lia)
theorem yo:bL X (.type "tuple") (fun xs H Q=>∃p ys,xs=[.ref p]/\((SqL X.K H p ys/\∀l,H l=none->Q (.ref l) (upd H l (.tup ys)))\/(SqT X.K H p ys/\Q (.ref p) H))):=by
 intro J' s σ H xs us Q I r h;obtain⟨p,ys,rfl,h⟩:=h;obtain⟨u,rfl,rx⟩:=cB r;cases rx;rcases h with⟨hq,q⟩|⟨hq,q⟩
 .obtain⟨Kd,r',pl,hz⟩:=I.list hq;have Ke:=r'.length;refine call_tuple_list pl.isList (fun h' kp=> ?_) (by simp only[AE]<;>lia)
  have I1:Inv X J' σ H {s with heap:=h'}:=I.kept (t':=s.toks) kp;have I2:Inv X J' σ (upd H h'.objs.size (.tup ys)) {s with heap:=h'.push {cls:= .type "tuple",data:= .seq Kd.toArray}}:=
   I1.laid (t':=s.toks) (fun b o e=>A4 _ e) (AB _) (show aI X.prog X.w _ _ _ (.tup ys) from⟨hz,Kd,r',IsTup.new _ _⟩)
  exact⟨.ref h'.objs.size,_,I2,rfl,q _ (I1.hok.fresh (AB _))⟩
 .obtain⟨Kd,r',pl,hz⟩:=I.tuple hq;exact call_tuple_same pl ⟨.ref p,H,I,rfl,q⟩
def tyV (K:W.Frag) (T:String) (x:V) (H:Hp):Prop:=match x with
 | .str _=>T="str"
 | .int _=>T="int"
 | .ref p=>(T="list"/\∃xs,SqL K H p xs)\/(T="tuple"/\∃o,K.lookup p=some o/\o.cls= .type "tuple"/\o.dict=none)\/
   (T="dict"/\((∃Kb,H p=some (.dK Kb))\/∃Kb,H p=some (.dT Kb)))\/(T="set"/\∃S n,H p=some (.set S n))
 |_=>False
theorem yp {σ:St}{T:String}{x:V}{v:MR} (I:Inv X J' σ H s) (r:av x v) (ty:tyV X.K T x H):
  s.TypeIs v T/\∀a,v= .ref a->∃ob,s.heap.get? a=some ob/\ob.dict=none:=by
 cases x with
 |str z=>
  obtain⟨t,rfl⟩:=r;cases (show T="str" from ty);exact⟨typeIs_str s z t,fun _ e=>nomatch e⟩
 |int i=>
  obtain⟨t,rfl⟩:=r;cases (show T="int" from ty);exact⟨typeIs_int s i t,fun _ e=>nomatch e⟩
 |ref p=>
  cases r;rcases ty with⟨rfl,xs,hq⟩|⟨rfl,o,hk,hc,hd⟩|⟨rfl,hk⟩|⟨rfl,S,n,hk⟩
  .obtain⟨Kd,_,pl,_⟩:=I.list hq;refine⟨pl.isList.typeIs,fun a e=> ?_⟩;cases e;obtain⟨o,n,e,c,hd,_⟩:=pl;exact⟨o,e,hd⟩
  .refine⟨⟨o,I.kIn p o hk,hc⟩,fun a e=> ?_⟩;cases e;exact⟨o,I.kIn _ o hk,hd⟩
  .have z:∃o,s.heap.get? p=some o/\o.ExactDict:=by
    rcases hk with⟨Kb,hk⟩|⟨Kb,hk⟩
    .obtain⟨_,_,_,_,o,_,_,e,ex,_⟩:=I.hok p _ hk;exact⟨o,e,ex⟩
    .obtain⟨_,_,_,_,o,_,_,e,ex,_⟩:=I.hok p _ hk;exact⟨o,e,ex⟩
   obtain⟨o,e,ex⟩:=z;refine⟨⟨o,e,ex.1⟩,fun a e2=> ?_⟩;cases e2;exact⟨o,e,ex.2.1⟩
  .obtain⟨o,_,_,_,e,ex,_⟩:=I.hok p _ hk;refine⟨⟨o,e,ex.1⟩,fun a e2=> ?_⟩;cases e2;exact⟨o,e,ex.2.1⟩
 |_=>exact False.elim ty
def tBM (K:W.Frag) (T:String) (r:V->O4 V->Hp->VK->Prop) (to:TE) (t:TA):TE:=fun σ H Q=>to σ H fun x H1=>tyV K T x H1/\t σ H1 fun xs H2=>r x xs H2 Q
variable {o e:O5}{es:O4 O5}{to:TE}{t:TA}{name:Str}{KB Kl:Pos}{T id:String}{r:V->O4 V->Hp->VK->Prop}
theorem bQ (pa:PlainAttrs T) (slot:Slot T name id) (hty:typeOf (.builtin id)=pure (.type "method_descriptor")) (hm:MtR X id r) (ho:PE X o to) (ha:PA X (e::es) t)
  (ML:attributeBase o name X.env (eval o X.env)=eval o X.env:=by rfl)
  (hfew:((backTo Kl (starEach (e::es) X.env)).all (fun x=> !x.1)&&(backToKw Kl (keywordEach [] X.env)).all (fun x=>x.1.isSome)
   &&decide ((e::es).length+([]:O4 Keyword).length+(if([]:O4 Keyword).isEmpty then 0 else 1)<30))=true:=by rfl)
  (MM:(KB.endLine==Kl.line)=true:=by rfl) (hs:starEach (e::es) X.env=(false,eval e X.env)::starEach es X.env:=by rfl) (Oe:(backTo Kl (starEach es X.env)).any (·.1)=false:=by rfl):
  PE X (.Call (.Attribute o name KB) (e::es) [] Kl) (tBM X.K T r to t):=by
 intro J' s σ H Q I h;refine wpAny_Call_method_late ML hfew MM rfl (thn (ho J' s σ H _ I h) fun v s1 ⟨x,H1,I1,r1,ty,q1⟩=> ?_);obtain⟨h1,h2⟩:=yp I1 r1 ty;refine⟨T,id,pa,slot,hty,h1,h2, ?_⟩;have hA:=ha Kl J' s1 σ H1 _ I1 q1;rw[hs] at hA⊢;refine Calls.callWith_builtin (by show(false||(backTo Kl (starEach es X.env)).any (·.1))=false;rw[Oe]<;>rfl) (Calls.evalArgs_plain ?_)
 exact thn hA fun us s2 ⟨vs,H2,I2,r2,q2⟩=>hm J' s2 σ H2 x vs v us Q I2 r1 r2 q2
end
def MtM (X:Cx) (id:String) (r:V->O4 V->Hp->VK->Prop):Prop:=
 ∀(J':O4 (OZ×Obj)) (s:OY) (σ:St) (H:Hp) (x:V) (xs:O4 V) (v:MR) (us:O4 MR) (Q:VK),Inv X J' σ H s->av x v->au xs us->r x xs H Q->
  wpAny (model X.prog X.w) X.A (call (.builtin id) (v::us)) (EP X J' σ Q) X.xe s
def au.one:∀{x:V}{us:O4 MR},au [x] us->∃u,us=[u]/\av x u
 |_,_, .cons r .nil=>⟨_,rfl,r⟩
theorem au.rep {xs:O4 V}{us:O4 MR} (h:au xs us):∀k:Nat,au (List.replicate k xs).flatten (List.replicate k us).flatten
 |0=> .nil
 |k+1=>by
  rw[BP,BP,Cu,Cu];exact au.append h (au.rep h k)
theorem qL (Kd:O4 MR):∀(k:Nat) (acc:O4 MR),
  List.foldl (fun x1 x2=>x1++x2) acc.toArray (List.replicate k Kd.toArray)=(acc++(List.replicate k Kd).flatten).toArray
 |0,acc=>by simp
 |k+1,acc=>by
  have e:acc.toArray++Kd.toArray=(acc++Kd).toArray:=by simp
  have e2:(acc++Kd)++(List.replicate k Kd).flatten=acc++(List.replicate (k+1) Kd).flatten:=by
   rw[BP,Cu,BE]
  rw[<-e2,<-qL Kd k (acc++Kd),<-e,BP,Cj]
section
variable {X:Cx}{J':O4 (OZ×Obj)}{σ:St}{H:Hp}{s:OY}{l b:OZ}{xs ys zs:O4 V}
theorem Inv.lset {Kd its':O4 MR}{n:Nat}{f:Array MR->Array MR}{t':Nat} (I:Inv X J' σ H s) (hH:H l=some (.lst xs))
  (e:s.heap.get? l=some {cls:= .type "list",data:= .seq Kd.toArray n}) (hf:f Kd.toArray=its'.toArray) (hv:au ys its') (hz:ys.length<=sizeLine):
  Inv X J' σ (upd H l (.lst ys)) {s with heap:=s.heap.update l (Obj.mapSeq f),toks:=t'}:=by
 have q:=PySem.IsL.update e f;rw[hf] at q;refine I.write (x:=l) (e:=l) (by rw[hH];exact trivial) (.inl rfl) (fun b' u hb hu=>(Heap.get?_update_other s.heap (Obj.mapSeq f) (Ne.symm hb)).trans hu) ⟨_,q⟩ ?_;exact⟨hz,its',_,hv,q⟩
def Inv.lnew {Kd:O4 MR}{t':Nat} (I:Inv X J' σ H s) (hv:au ys Kd) (hz:ys.length<=sizeLine):
  Inv X J' σ (upd H s.heap.objs.size (.lst ys)) {s with heap:=s.heap.push {cls:= .type "list",data:= .seq Kd.toArray},toks:=t'}:=
 I.laid (fun _ _ q=>A4 _ q) (AB _) ⟨hz,Kd,0,hv,AI _ rfl⟩
theorem Inv.fresh (I:Inv X J' σ H s):H s.heap.objs.size=none:=I.hok.fresh (AB _)
theorem Inv.lstM (I:Inv X J' σ H s) (hH:H l=some (.lst xs)):xs.length<=sizeLine/\∃(Kd:O4 MR) (n:Nat),au xs Kd/\xs.length=Kd.length/\s.heap.get? l=some {cls:= .type "list",data:= .seq Kd.toArray n}:=by
 obtain⟨z,Kd,n,r,e⟩:=I.hok l _ hH;exact⟨z,Kd,n,r,r.length,e⟩
theorem qM (h:n<=sizeLine):Builtin.List.listTooLong n=false:=by
 unfold Builtin.List.listTooLong;exact AX (by lia)
end
section
variable {X:Cx}
inductive rAppend (x:V) (vs:List V) (H:Hp) (Q:VK):Prop
 |mk l xs y:x= .ref l->vs=[y]->H l=some (.lst xs)->xs.length<sizeLine->Q .non (upd H l (.lst (xs++[y])))->rAppend x vs H Q
theorem cU:MtM X "list.append" rAppend:=by
 intro J' s σ H x vs v us Q I rx rv h;obtain⟨l,xs,y,rfl,rfl,hH,hz,q⟩:=h;cases rx;obtain⟨u,rfl,ru⟩:=rv.one;obtain⟨z,Kd,n,r,hl,e⟩:=I.lstM hH;refine call_meets F.slot_list_append ⟨_,e,rfl⟩ F.entry_list_append (F.args_list_append_2 _ _) (PySem.list_append l Kd.toArray n u (by rw[AE];lia)) ⟨e, ?_⟩;refine⟨.non,_,I.lset (its':=Kd++[u]) hH e (by simp) (r.append (.cons ru .nil)) ?_,rfl,q⟩;rw[A',D4];lia
inductive rExtend (x:V) (vs:List V) (H:Hp) (Q:VK):Prop
 |mk l b xs zs:x= .ref l->vs=[.ref b]->H l=some (.lst xs)->H b=some (.lst zs)->xs.length+zs.length<=sizeLine->Q .non (upd H l (.lst (xs++zs)))->rExtend x vs H Q
theorem fN:MtM X "list.extend" rExtend:=by
 intro J' s σ H x vs v us Q I rx rv h;obtain⟨l,b,xs,zs,rfl,rfl,hH,hB,hz,q⟩:=h;cases rx;obtain⟨u,rfl,ru⟩:=rv.one;cases ru;obtain⟨z,Kd,n,r,hl,e⟩:=I.lstM hH;obtain⟨z2,LA,n2,r2,K0,e2⟩:=I.lstM hB;have hsz:Kd.toArray.size+LA.toArray.size<=sizeLine:=by rw[AE,AE];lia
 have MN:¬(!Kd.toArray.isEmpty&&Builtin.List.listTooLong (Kd.toArray.size+LA.toArray.size))=true:=by
  rw[qM hsz,C9];exact AZ
 refine call_meets F.slot_list_extend ⟨_,e,rfl⟩ F.entry_list_extend (F.args_list_extend_2 _ _)
  (AutoSeq1.list_extend_list_list_0 l Kd.toArray n b LA.toArray n2 MN (by rw[AE];lia) (by lia)) ⟨e,e2, ?_⟩
 refine⟨.non,_,I.lset (its':=Kd++LA) hH e (by simp) (r.append r2) ?_,rfl,q⟩;rw[A'];lia
inductive rCat (x:V) (y:V) (H:Hp) (Q:VK):Prop
 |mk l b xs zs:x= .ref l->y= .ref b->H l=some (.lst xs)->H b=some (.lst zs)->xs.length+zs.length<=sizeLine->(∀p,H p=none->Q (.ref p) (upd H p (.lst (xs++zs))))->rCat x y H Q
theorem jE:OpR X (binaryOp .Add) rCat:=by
 intro J' s σ H x y v u Q I rx ry h;obtain⟨l,b,xs,zs,rfl,rfl,hH,hB,hz,q⟩:=h;cases rx;cases ry;obtain⟨z,Kd,n,r,hl,e⟩:=I.lstM hH;obtain⟨z2,LA,n2,r2,K0,e2⟩:=I.lstM hB;refine PySem.P.add_list e e2 ?_ (by rw[AE,AE];lia);have ea:Kd.toArray++LA.toArray=(Kd++LA).toArray:=by simp
 rw[ea];exact⟨.ref _,_,I.lnew (t':=s.toks) (r.append r2) (by rw[A'];lia),rfl,q _ I.fresh⟩
inductive rRep (x:V) (y:V) (H:Hp) (Q:VK):Prop
 |mk l k xs:x= .ref l->y= .int k->H l=some (.lst xs)->-(2^63)<=k->k<2^63->xs.length*k.toNat<=sizeLine->(∀p,H p=none->Q (.ref p) (upd H p (.lst (List.replicate k.toNat xs).flatten)))->rRep x y H Q
theorem yq {α:Type} (xs:O4 α) (k:Nat):(List.replicate k xs).flatten.length=k*xs.length:=by
 induction k with
 |zero=>simp
 |succ k ih=>rw[BP,Cu,A',ih,CH,Nat.add_comm]
theorem yr:OpR X (binaryOp .Mult) rRep:=by
 intro J' s σ H x y v u Q I rx ry h;obtain⟨l,k,xs,rfl,rfl,hH,h1,h2,hz,q⟩:=h;cases rx;obtain⟨t,rfl⟩:=ry;obtain⟨z,Kd,n,r,hl,e⟩:=I.lstM hH;have Ke:Kd.toArray.size*k.toNat<=sizeLine:=by rw[AE,<-hl];exact hz
 have L':¬Kd.toArray.size*k.toNat>(2^63-1)/8:=by
  have:(sizeLine:Nat)<=(2^63-1)/8:=by decide
  lia
 have hfit:¬(!Builtin.List.listFitsIndex k)=true:=by
  rw[fitsIndex_both h1 h2];exact AZ
 have MN:¬Builtin.List.listTooLong (Kd.toArray.size*k.toNat)=true:=by
  rw[qM Ke];exact AZ
 have hnew:List.foldl (fun x1 x2=>x1++x2) #[] (List.replicate (if Kd.toArray.isEmpty=true then 0 else k.toNat) Kd.toArray)=(List.replicate k.toNat Kd).flatten.toArray:=by
  have f0:∀m:Nat,List.foldl (fun x1 x2=>x1++x2) #[] (List.replicate m Kd.toArray)=(List.replicate m Kd).flatten.toArray:=fun m=>by
   have:=qL Kd m [];rw[List.nil_append] at this;exact this
  rw[f0];cases Kd with
  |nil=>simp
  |cons a r'=>rw[A6 (by simp)]
 refine wpAny_binaryOp_repeat_ref (T:="list") (U:="int") (by decide) ⟨_,e,rfl⟩ (fun s'=>typeIs_int s' k t) noFill_list_mul F.fills_int_mul F.slot_int_rmul repeat_list F.slot_int_index.lookup
  (call_meets F.slot_int_rmul (typeIs_int s k t) F.entry_int_rmul (F.args_int_rmul_2 _ _) (int___rmul___int_list k t l Kd.toArray n)
   ⟨e,rfl,⟨_,e,rfl⟩,call_meets F.slot_list_mul ⟨_,e,rfl⟩ F.entry_list_mul (F.args_list_mul_2 _ _) (AutoListH.list___mul___list_int_3 l Kd.toArray n k t hfit L' MN) ⟨e, ?_⟩⟩)
 rw[hnew];exact⟨.ref _,_,I.lnew (t':=s.toks) (r.rep k.toNat) (by rw[yq,Nat.mul_comm];exact hz),rfl,q _ I.fresh⟩
end
end L2
namespace Att
open PySem PySem.W PySem.Calls PyProof.Rows
variable {P:Params}{h:O6}{l:OpenLaw}{n:Nat}
theorem yt :∀(ns:O4 Int) (vs:O4 MR),WellAll P h vs (ns.map WData.int)->IntsAre vs ns:=by
 intro ns;induction ns with
 |nil=>
  intro vs w;rw[List.map_nil] at w;cases w;exact .nil
 |cons n ns ih=>
  intro vs w;rw[AK] at w;cases w with
  |cons a b=>
   cases a;exact .cons _ _ (ih _ b)
theorem yu (hn:l.most=some n) {args:O4 WData}{Of:O4 MR}
  (Nu:l.row.toRowW.claim.pre args=true) (hwl:WellAll P h Of args):
  ∃a vs ns,Of=[Value.ref a]/\args=[WData.list (ns.map WData.int)]/\h.get? a=some {cls:= .type "list",data:= .seq vs.toArray}/\IntsAre vs ns/\ns.length<=n:=by
 have Og:WShape.hasAll [] args [.list .int]=true:=(pre_splitW Nu).1;have hc:l.pre.holds [] {args:=args}=true:=(pre_splitW Nu).2;obtain⟨d,r,rfl,h1,h2⟩:=hasAllW_cons Og;obtain rfl:=hasAllW_nil h2;obtain⟨xs,rfl,h3⟩:=hasW_list h1;obtain⟨ns,rfl⟩:=items_int h3;have Ke:ns.length<=n:=by
  unfold OpenLaw.pre at hc;have h4:(WTm.not (.lt (.lit (.int (n:Int))) (.len (.arg 0)))).holds [] {args:=[.list (ns.map .int)]}=true:=by
   have h4:=(holds_andW hc).1;rw[hn] at h4;exact h4
  have h5:=condW_of h4 (w_not (w_lt w_lit (w_len_list (w_arg rfl))));rw[A1] at h5;refine Nat.le_of_not_lt fun q=> ?_;have q':(n:Int)<((ns.length:Nat):Int):=by lia
  first
   |(rw[Ag q'] at h5;exact absurd h5 (by decide))
   |(simp at h5;lia)
 cases hwl with
 |cons w1 w2=>
  cases w2;cases w1 with
  |list ho KE=>exact⟨_,_,ns,rfl,rfl,ho,yt ns _ KE,Ke⟩
theorem yw (l:OpenLaw) (args:O4 WData):l.row.toRowW.claim.post args (.bool true) args=true:=
 postW_of (r:=l.row.toRowW) (X:=(true==true))
  (show WShape.has [] (.bool true) .bool=true by first|rfl|decide|simp[WShape.has,WShape.arms,WShape.armsAll])
  (show(WTm.eq .res (.lit (.bool true))).value [] {args:=args,res:=some (.bool true),after:=args}=some (.bool (true==true)) from w_eq_bool (w_res rfl) w_lit) rfl
theorem attach_call {q:O0}{Lx:O4 Str}{XP:(Str->O7 MR)->O6->Prop}{YP:O2->O6->Prop}{d:DefRec}
  (hn:l.most=some n) (hdf:d.params.defaults=[])
  (call:∀(w:O2) (s₀ s₁:OY) (mg mb:Str->O7 MR) (fa:OZ) (o:Obj) (pm cd LJ:MR) (a:OZ) (vs:O4 MR) (ns:O4 Int),
   Ground q Lx [] XP w s₀ mg mb s₁.heap->YP w s₁.heap->
   s₁.heap.get? fa=some o->o.data= .func (docDef d.name d.params d.body d.scope pm cd LJ)->s₁.heap.CodeRec cd d.name->mg d.name=some (.ref fa)->
   s₁.heap.get? a=some {cls:= .type "list",data:= .seq vs.toArray}->IntsAre vs ns->ns.length<=n->s₁.gens= #[]->
   codeAny (model l.prog w) callerA (.call (.ref fa) ⟨[.ref a],[]⟩) (fun r s'=>r= .ok (.ret (.bool true))/\OldK s₁.heap s'.heap/\s'.os=s₁.os/\AllBare s'.gens) s₁):
  WalkO q Lx XP YP l.row.toRowW d [] (fun f vs=>PySem.call f vs):=by
 intro w s₀ s₁ mg mb G Y fa o pm cd LJ dV kV ho hd MJ hD hmg hg args Of as Nu hlay hrd hwl hlo;obtain rfl:dV= .none:=Dflts.none hD hdf;obtain rfl:kV= .none:=Dflts.noKw hD;obtain⟨a,vs,ns,rfl,rfl,Oh,MO,Ke⟩:=yu hn Nu hwl;refine enter_call (codeAny_mono (call w s₀ s₁ mg mb fa o pm cd LJ a vs ns G Y ho (fd_plain hd) MJ hmg Oh MO Ke hg) fun r s' hq=> ?_);obtain⟨rfl,h2,h3,h4⟩:=hq;exact⟨.inl ⟨.bool true, .bool true,[],rfl,fun _=>rfl, .bool true,yw l _,fun _=>⟨List.Pairwise.nil,fun _ hm=>(nomatch hm)⟩⟩,h2,h3,h4⟩
section
variable {prog:O0}{w:O2}{A:O3}{E:MR->OY->Prop}{s:OY}{K:Frag}
def J1 (h:O6) (L d:OZ):O4 (OZ×Obj):=(List.range h.objs.size).filterMap fun a=>if a=L\/a=d then none else(h.get? a).map fun o=>(a,o)
end
end Att
namespace L2
open PySem PySem.Spec PyProof.Rows
variable {A B c:Prop}{E Q:MR->OY->Prop}{H H':Hp}{J':O4 (OZ×Obj)}{K:W.Frag}{K6:List Expr}{Kb:O4 (O4 Key×V)}{Kg x:Str}{Lp:Expr}{MP pos py:Pos}{N ps:O4 Str}{P:O0}{X:Cx}{a acc b f l:OZ}{d i k n own:Nat}{e:Bool}{env:Env}{fd:O1}{g:TG}{h':O6}{j:Int}{js:O4 Nat}{o:O7 V}{s:OY}{scope:Scope}{st:O8}{te:TE}{tg:O5}{u:MR}{v y:V}{w:O2}{xs:O4 (O4 Key×OZ×MR)}
theorem qN:∀{vs:O4 MR}{ns:O4 Int},IntsAre vs ns->au (ns.map V.int) vs
 |_,_, .nil=> .nil
 |_,_, .cons n t h=> .cons ⟨t,rfl⟩ (qN h)
def lu (H:Hp):Prop:=∀b,H b=none\/∃o xs,H b=some (.frz o (.lst xs))
theorem yy {P:O0}{w:O2}{mg mb:Str->O7 MR}{CX:CXT}{k:Nat}{fa:OZ}{fd:O1}{sp:Sp}{s₁:OY}{vs:O4 MR}{ns:O4 Int}
  (KX:K.In s₁.heap) (hns:s₁.heap.Ns mainGlobals mg) (hb:s₁.heap.Ns builtinsNs mb) (hbb:∀x:Str,x≠"__name__"->mb x=bootBuiltins x) (hlim:s₁.heap.NoLimit) (hg:s₁.gens= #[])
  (ha:s₁.heap.get? a=some {cls:= .type "list",data:= .seq vs.toArray}) (hi:IntsAre vs ns) (hl:ns.length<=sizeLine) (hr:Room k callerA)
  (F:∀base:O6,K.In base->base.Ns mainGlobals mg->FnOk P w K mg base CX k fa fd [x] sp) (hbind:∀(s:OY) (u:MR),BindsTo s fd ⟨[u],[]⟩ [(x,u)])
  (NU:∀H:Hp,lu H->SqL K H a (ns.map V.int)->sp [.ref a] H (fun v _=>v= .bl true) fun _ _ _=>False)
  (hCX:∀H e s',CX [] H s₁ (fun _ _ _=>False) e s'->False):
  codeAny (model P w) callerA (.call (.ref fa) ⟨[.ref a],[]⟩) (fun r s'=>r= .ok (.ret (.bool true))/\OldK s₁.heap s'.heap/\s'.os=s₁.os/\AllBare s'.gens) s₁:=by
 have rv:=qN hi;have lenV:=hi.length;have core:∀H:Hp,lu H->SqL K H a (ns.map V.int)->HOk P w H s₁.heap->(∀b,H b≠none->b=a)->(H a≠none->K.lookup a=none)->
   codeAny (model P w) callerA (.call (.ref fa) ⟨[.ref a],[]⟩) (fun r s'=>r= .ok (.ret (.bool true))/\OldK s₁.heap s'.heap/\s'.os=s₁.os/\AllBare s'.gens) s₁:=by
  intro H hO hS hok hA hK;have base_of:∀{b:OZ}{o:Obj},s₁.heap.get? b=some o->H b=none->(eK s₁.heap H).get? b=some o:=fun e n=>wY e n;have noA:∀{b:OZ}{o:Obj}{es:Array DictEntry}{ep:Nat},s₁.heap.get? b=some o->o.data= .dict es ep->H b=none:=fun{b o es ep} e d=>by
   cases q:H b with
   |none=>rfl
   |some u=>
    have e':b=a:=hA b (by rw[q];simp);subst e';rw[ha] at e;cases e;have d':Data.seq vs.toArray _=Data.dict es ep:=d;cases d'
  have nsK:∀{b:OZ}{m:Str->O7 MR},s₁.heap.Ns b m->(eK s₁.heap H).Ns b m:=fun{b m} ⟨o,es,ep,e,d,r⟩=>⟨o,es,ep,base_of e (noA e d),d,r⟩;have hKb:K.In (eK s₁.heap H):=fun b o e=>base_of (KX b o e) (by
   cases q:H b with
   |none=>rfl
   |some u=>
    have e':b=a:=hA b (by rw[q];simp);subst e';rw[hK (by rw[q];simp)] at e;cases e)
  have hM:Mod K mg (eK s₁.heap H):=⟨hKb,nsK hns,⟨mb,nsK hb,hbb⟩,let ⟨mc,h1,h2⟩:=hlim;⟨mc,nsK h1,h2⟩⟩;have e0:Env0 P w K mg (eK s₁.heap H) callerA [] s₁ H:=⟨rfl,hM,fun b o e=>wZ e,Nat.le_of_eq (wX _ _),trivial,fun b hb=>absurd (show b∈([]:O4 OZ) from hb) (by simp),hok, .of_eq hg⟩;refine codeAny_mono ((F _ hKb (nsK hns)).run callerA [] s₁ H ⟨[.ref a],[]⟩ [.ref a] [.ref a] _ _ hr e0 (hbind s₁ (.ref a)) (.cons rfl .nil) (NU H hO hS)) fun r s' h=> ?_;cases r with
  |error e=>exact(hCX H e s' h).elim
  |ok fl=>
   cases fl with
   |next=>exact False.elim h
   |brk=>exact False.elim h
   |cont=>exact False.elim h
   |ret u=>
    obtain⟨v,H',os,bare,un,hok',r',q⟩:=h;have q':v= .bl true:=q;subst q';obtain rfl:u=Value.bool true:=r';refine⟨rfl,OldK.of_keep fun b o e=> ?_,os,bare⟩;cases q:H b with
    |none=>exact un.keep b o e q (by intro z;exact absurd (show b∈([]:O4 OZ) from z) (by simp)) (by simp)
    |some u=>
     rcases hO b with z|⟨ob,xs,z⟩
     .rw [q] at z;cases z
     .have z2:=un.frzs b ob _ z;obtain⟨e1,_⟩:=hok b _ z;obtain⟨e2,_⟩:=hok' b _ z2;rw[e] at e1;cases e1;exact e2
 cases hk:K.lookup a with
 |some o=>
  have e:=KX a o hk;rw[ha] at e;cases e;refine core (fun _=>none) (fun _=> .inl rfl) (.inr ⟨_,vs.toArray,_,hk,rfl,rfl,rfl,by rw[AE,lenV];exact hl,by simpa using rv⟩) (fun b u z=>by have z':(none:O7 HO)=some u:=z;cases z') (fun b z=>absurd rfl z) fun z=>absurd rfl z
 |none=>
  refine core (fun b=>if b=a then some (.frz {cls:= .type "list",data:= .seq vs.toArray} (.lst (ns.map V.int))) else none) (fun b=> ?_) (.inl (.inr ⟨{cls:= .type "list",data:= .seq vs.toArray},A8 rfl⟩)) (fun b u z=> ?_) (fun b z=> ?_) fun _=>hk
  .by_cases hb:b=a
   .exact .inr ⟨_,_,A8 hb⟩
   .exact .inl (A6 hb)
  .by_cases hb:b=a
   .have z':=(A8 hb).symm.trans z;cases z';subst hb;exact⟨ha,by rw[A1];exact hl,vs,_,rv,ha⟩
   .have z':=(A6 hb).symm.trans z;cases z'
  .by_cases hb:b=a
   .exact hb
   .exact absurd (A6 hb) z
theorem yz {l:W.OpenLaw}{q:O0}{Lx:O4 Str}{XP:(Str->O7 MR)->O6->Prop}{YP:O2->O6->Prop}{d:DefRec}{K:Params->W.Frag}{CX:O2->CXT}{sp:O2->Sp}
  (hn:l.most=some n) (Nf:n<=sizeLine) (hdf:d.params.defaults=[]) (hr:Room k callerA)
  (hY:∀(w:O2) (h:O6),YP w h->(K w.params).In h)
  (F:∀(w:O2) (mg:Str->O7 MR) (fa:OZ) (h:O6),(K w.params).In h->h.Ns mainGlobals mg->mg d.name=some (.ref fa)->
   ∃fd:O1,(∀(s:OY) (u:MR),BindsTo s fd ⟨[u],[]⟩ [(x,u)])/\
    ∀base:O6,(K w.params).In base->base.Ns mainGlobals mg->FnOk l.prog w (K w.params) mg base (CX w) k fa fd [x] (sp w))
  (NU:∀(w:O2) (H:Hp) (a:OZ) (ns:O4 Int),ns.length<=n->lu H->SqL (K w.params) H a (ns.map V.int)->sp w [.ref a] H (fun v _=>v= .bl true) fun _ _ _=>False)
  (hCX:∀(w:O2) (H:Hp) (s:OY) (e:MR) (s':OY),CX w [] H s (fun _ _ _=>False) e s'->False):
  W.WalkO q Lx XP YP l.row.toRowW d [] (fun f vs=>PySem.call f vs):=by
 refine Att.attach_call hn hdf fun w s₀ s₁ mg mb fa o pm cd LJ a vs ns G Y ho hd MJ hmg Oh MO Ke hg=> ?_;have KX:=hY w _ Y;obtain⟨fd,hb,hF⟩:=F w mg fa _ KX G.T.g hmg;exact yy KX G.T.g G.T.b G.T.builtins G.T.nolimit hg Oh MO (B7 Ke Nf) hr hF hb (fun H hO hS=>NU w H a ns Ke hO hS) fun H e s'=>hCX w H s₁ e s'
def eQ (s:O8):Arguments:=match s with
 | .FunctionDef _ a _ _ _ _ _ _ _ _=>a
 |_=>{posonlyargs:=[],args:=[],vararg:=none,kwonlyargs:=[],kw_defaults:=[],kwarg:=none,defaults:=[]}
def dB (s:O8):O4 O8:=match s with
 | .FunctionDef _ _ b _ _ _ _ _ _ _=>b
 |_=>[]
def al (s:O8):Scope:=match s with
 | .FunctionDef _ _ _ _ _ _ sc _ _ _=>sc
 |_=>{kind:= .function,names:=[],isGenerator:=false,isCoroutine:=false}
abbrev CX0:CXT:=fun _ _ _ _ _ _=>False
abbrev E0:XK:=fun _ _ _=>False
def dW :lr CX0 X E0:=fun _ _ _ _ _ _ _ h=>h.elim
structure Fun (K:W.Frag) (x Kg:Str) (st:O8) (f:OZ) (fd:O1):Prop where
 ex:∃(oc:Value) (od:Option Addr) (kV LJ pm:Value) (an:Option Addr) (Kz ct:Value) (NT:Array (Option Value)),
  fd=W.fnOf x Kg (eQ st) (dB st) (al st) .none kV LJ pm an Kz ct/\K.lookup f=some ⟨oc,od, .func fd,NT⟩/\W.codeIn K Kz Kg=true
 kp:W.keepIn K (.ref f)=true
section
variable {P:O0}{w:O2}{K:W.Frag}{mg:Str->O7 MR}{base:O6}
theorem Fun.ok {sp:Sp} (F:Fun K x Kg st f fd) (S:FnScope N ps (al st)) (len:∀vs H Q E,sp vs H Q E->vs.length=ps.length)
  (LN:∀(Kz:MR) (A:O3) (outer:O4 Env) (s:OY) (H:Hp) (vs:O4 V) (Q:VK) (E:XK),Room k (A.deeper (envOfC Kg (al st) s.heap.objs.size f Kz))->sp vs H Q E->
   ∃t,PSs (fM CX0 P w K mg base N Kg (al st) f Kz A outer s H E).nox (dB st) t/\t {nx:=fun _ H'=>Q .non H',rt:=Q} (start N vs) H):FnOk P w K mg base CX0 (k+1) f fd ps sp:=by
 obtain⟨oc,od,kV,LJ,pm,an,Kz,ct,NT,rfl,lk,MJ⟩:=F.ex;refine x8 lk MJ S len fun A outer s H vs Q E hr NU=> ?_;obtain⟨t,h,q⟩:=LN Kz A outer s H vs Q E hr NU;exact⟨t,h.nox,q⟩
theorem Fun.binds (F:Fun K x Kg st f fd)
  (h:∀(kV LJ pm:MR) (an:O7 OZ) (Kz ct:MR) (us:O4 MR),us.length=ps.length->bindArgs (W.fnOf x Kg (eQ st) (dB st) (al st) .none kV LJ pm an Kz ct) ⟨us,[]⟩=pure (ps.zip us)):gs K fd ps []:=by
 obtain⟨oc,od,kV,LJ,pm,an,Kz,ct,NT,rfl,lk,MJ⟩:=F.ex;exact .all (h kV LJ pm an Kz ct)
def yA {oc:MR}{od an:O7 OZ}{NT:Array (O7 MR)}{kV LJ pm Kz ct:MR} (l:K.lookup f=some ⟨oc,od, .func (W.fnOf x Kg (eQ st) (dB st) (al st) .none kV LJ pm an Kz ct),NT⟩)
  (c:W.codeIn K Kz Kg=true) (k:W.keepIn K (.ref f)=true):Fun K x Kg st f (W.fnOf x Kg (eQ st) (dB st) (al st) .none kV LJ pm an Kz ct):=⟨⟨oc,od,kV,LJ,pm,an,Kz,ct,NT,rfl,l,c⟩,k⟩
end
theorem fO {A:O3}(hr:Room k A):A.units+1<cLine:=Nat.lt_of_le_of_lt (Nat.add_le_add_left (by decide:1<=64) _) hr.units
theorem aA (h:n<=1000):n<sizeLine:=Nat.lt_of_le_of_lt h (by decide)
section
variable {X:Cx}
theorem pv (i:Nat) {pos:Pos} (hN:X.N[i]? =some x:=by rfl) (hv:Vis X.env.scope x:=by first|exact Or.inl rfl|exact Or.inr (Or.inl rfl)|exact Or.inr (Or.inr rfl)) (hd:(x==("__debug__":Str))=false:=by decide)
  (MJ:(x==("__classdict__":Str))=false:=by decide):PE X (.Name x pos) (tVar i):=w9 hN hv hd MJ
end
theorem bn (h:B):if false=true then A else B:=by
 rw[A6 AZ];exact h
theorem dC (h:A):if true=true then A else B:=by
 rw[A8 rfl];exact h
theorem yB [Decidable c] (hc:c) (h:B):if(!decide c)=true then A else B:=by
 rw[Ag hc];exact bn h
def ae (H H':Hp):Prop:=∀b o,H b=some o->H' b=some o
def ae.refl (H:Hp):ae H H:=fun _ _ h=>h
def ae.trans {H1 H2:Hp} (a:ae H H1) (b:ae H1 H2):ae H H2:=fun c o h=>b c o (a c o h)
theorem ae.free (e:ae H H') (h:H' l=Option.none):H l=Option.none:=by
 cases q:H l with
 |none=>rfl
 |some o=>
  rw[e l o q] at h;cases h
theorem ae.seq {xs:O4 V} (e:ae H H') (h:SqL K H a xs):SqL K H' a xs:=by
 rcases h with(h|⟨o,h⟩)|h
 .exact .inl (.inl (e _ _ h))
 .exact .inl (.inr ⟨o,e _ _ h⟩)
 .exact .inr h
set_option maxHeartbeats 4000000
section
variable {κ:Type} [DecidableEq κ]
def bJ (Kb:O4 (κ×V)) (k:κ):O7 V:=(Kb.find? fun kv=>decide (kv.1=k)).map (·.2)
def bD (Kb:O4 (κ×V)) (k:κ) (v:V):O4 (κ×V):=
 if(Kb.any fun kv=>decide (kv.1=k))=true then Kb.map (fun kv=>if kv.1=k then(kv.1,v) else kv) else Kb++[(k,v)]
theorem iy {p:κ×V}{r:O4 (κ×V)}{k:κ} (e:p.1=k):bJ (p::r) k=some p.2:=by simp[bJ,BV,e]
theorem iz {p:κ×V}{r:O4 (κ×V)}{k:κ} (e:¬p.1=k):bJ (p::r) k=bJ r k:=by simp[bJ,BV,e]
theorem lv (k:κ):∀Kb:O4 (κ×V),(Kb.any fun kv=>decide (kv.1=k))=(bJ Kb k).isSome
 |[]=>rfl
 |p::r=>by
  rw[List.any_cons];by_cases e:p.1=k
  .simp only[iy e,Ag e,Bool.true_or,Option.isSome_some]
  .rw [iz e,AX e,Bool.false_or];exact lv k r
theorem lw (Kb:O4 (κ×V)) (k:κ) (v:V):(bD Kb k v).length<=Kb.length+1:=by
 unfold bD;split
 .rw [A1];lia
 .rw [A',Ad,List.length_nil];lia
theorem cz.isSome_eq {u:O7 MR} (r:cz o u):o.isSome=u.isSome:=by
 cases o with
 |none=>cases u with
  |none=>rfl
  |some _=>exact(show False from r).elim
 |some _=>cases u with
  |none=>exact(show False from r).elim
  |some _=>rfl
theorem cz.getD {o:O7 V}{u:O7 MR}{d:V}{d':MR} (r:cz o u) (rd:av d d'):av (o.getD d) (u.getD d'):=by
 cases o with
 |none=>cases u with
  |none=>exact rd
  |some _=>exact(show False from r).elim
 |some _=>cases u with
  |none=>exact(show False from r).elim
  |some _=>exact r
theorem KV.val {Kb:O4 (κ×V)}{vs:O4 (κ×MR)} (r:KV Kb vs) (k:κ):cz (bJ Kb k) (valueAt vs k):=by
 unfold KV at r;induction r with
 |nil=>exact True.intro
 | @cons p q ps qs h t ih=>
  obtain⟨h1,h2⟩:=h;by_cases e:p.1=k
  .have e':q.1=k:=h1.symm.trans e;have b:valueAt (q::qs) k=some q.2:=by simp[valueAt,BV,e']
   rw[iy e,b];exact h2
  .have e':¬q.1=k:=fun z=>e (h1.trans z);have b:valueAt (q::qs) k=valueAt qs k:=by simp[valueAt,BV,e']
   rw[iz e,b];exact ih
theorem KV.any {Kb:O4 (κ×V)}{vs:O4 (κ×MR)} (r:KV Kb vs) (k:κ):(Kb.any fun kv=>decide (kv.1=k))=vs.any fun kv=>decide (kv.1=k):=by
 unfold KV at r;induction r with
 |nil=>rfl
 |cons h t ih=>rw[List.any_cons,List.any_cons,ih,h.1]
theorem KV.repl {Kb:O4 (κ×V)}{vs:O4 (κ×MR)} (r:KV Kb vs) (k:κ) (ry:av y u):
  KV (Kb.map fun kv=>if kv.1=k then(kv.1,y) else kv) (vs.map fun kv=>if kv.1=k then(kv.1,u) else kv):=by
 unfold KV at r⊢;induction r with
 |nil=>exact .nil
 | @cons p q ps qs h t ih=>
  rw[AK,AK];refine .cons ?_ ih;obtain⟨h1,h2⟩:=h;by_cases e:p.1=k
  .rw [A8 e,A8 (h1.symm.trans e)];exact⟨h1,ry⟩
  .rw [A6 e,A6 (fun z=>e (h1.trans z))];exact⟨h1,h2⟩
theorem KV.put {Kb:O4 (κ×V)}{vs:O4 (κ×MR)} (r:KV Kb vs) (k:κ) (ry:av y u):KV (bD Kb k y) (stored vs k u):=by
 unfold bD stored;rw[r.any k];by_cases e:(vs.any fun kv=>decide (kv.1=k))=true
 .rw [A8 e,A8 e];exact r.repl k ry
 .rw [A6 e,A6 e];exact Paired.snoc r ⟨rfl,ry⟩
theorem KV.length {Kb:O4 (κ×V)}{vs:O4 (κ×MR)} (r:KV Kb vs):Kb.length=vs.length:=CC r
end
theorem iA {k:Key}(r:av (kV k) u):(bZ P w).is k u=true:=by
 cases k with
 |inl i=>obtain⟨t,e⟩:=(show∃t,u=Value.int i t from r);subst e;exact wU P w i t
 |inr x=>obtain⟨t,e⟩:=(show∃t,u=Value.str x t from r);subst e;exact wV P w x t
theorem qO {P:O0}{w:O2}:∀{ks:O4 Key}{us:O4 MR},au (ks.map kV) us->ItemsAre (bZ P w) ks us
 |[],_,r=>by rw[List.map_nil] at r;cases r;exact .nil
 |k::ks,_,r=>by
  rw[AK] at r;cases r with
  |cons h t=>exact .cons (iA h) (qO t)
abbrev KT (H:Hp):O4 (O4 Key×V)->O4 (O4 Key×OZ×MR)->Prop:=Paired fun p q=>p.1=q.1/\H q.2.1=some (.tup (p.1.map kV))/\av p.2 q.2.2
theorem KT.val {H:Hp}{Kb:O4 (O4 Key×V)}{xs:O4 (O4 Key×OZ×MR)} (r:KT H Kb xs) (k:O4 Key):cz (bJ Kb k) ((atKey xs k).map (·.2)):=by
 induction r with
 |nil=>exact True.intro
 | @cons p q ps qs h t ih=>
  obtain⟨h1,_,h2⟩:=h;by_cases e:p.1=k
  .have e':q.1=k:=h1.symm.trans e;have b:atKey (q::qs) k=some q.2:=by simp[atKey,BV,e']
   rw[iy e,b];exact h2
  .have e':¬q.1=k:=fun z=>e (h1.trans z);have b:atKey (q::qs) k=atKey qs k:=by simp[atKey,BV,e']
   rw[iz e,b];exact ih
theorem KT.repl (r:KT H Kb xs) (k:O4 Key) (ry:av y u):
  KT H (Kb.map fun kv=>if kv.1=k then(kv.1,y) else kv) (xs.map (putAt k u)):=by
 induction r with
 |nil=>exact .nil
 | @cons p q ps qs h t ih=>
  rw[AK,AK];refine .cons ?_ ih;obtain⟨h1,h2,h3⟩:=h;unfold putAt;by_cases e:p.1=k
  .rw [A8 e,A8 (h1.symm.trans e)];exact⟨h1,h2,ry⟩
  .rw [A6 e,A6 (fun z=>e (h1.trans z))];exact⟨h1,h2,h3⟩
theorem KT.put (r:KT H Kb xs) (k:O4 Key) (hb:H b=some (.tup (k.map kV))) (ry:av y u):
  KT H (bD Kb k y) (storedH xs k b u):=by
 have e:(Kb.any fun kv=>decide (kv.1=k))=(atKey xs k).isSome:=by
  rw[lv,(r.val k).isSome_eq,Option.isSome_map]
 unfold bD storedH;rw[e];by_cases q:(atKey xs k).isSome=true
 .rw [A8 q,A8 q];exact r.repl k ry
 .rw [A6 q,A6 q];exact Paired.snoc r ⟨rfl,hb,ry⟩
def KT.keeps (r:KT H Kb xs) (ht:∀b ys,H b=some (.tup ys)->H' b=some (.tup ys)):KT H' Kb xs:=
 Paired.mapP r fun _ _ z=>⟨z.1,ht _ _ z.2.1,z.2.2⟩
section
variable {P:O0}{w:O2}{H:Hp}{h:O6}{a:OZ}
def jF {u:HO} (ok:HOk P w H h) (e:Rd H a u):aI P w H h a u:=e.ok ok
def gv {Kb:O4 (Key×V)} (ok:HOk P w H h) (e:Rd H a (.dK Kb)):Kb.length<=sizeLine/\(a==sysModules)=false/\∃vs,KV Kb vs/\h.DictOf (bZ P w) a vs:=
 show aI P w H h a (.dK Kb) from jF ok e
def yC {Kb:O4 (Key×V)} (ok:HOk P w H h) (e:H a=some (.dK Kb)):Kb.length<=sizeLine/\(a==sysModules)=false/\∃vs,KV Kb vs/\h.DictOf (bZ P w) a vs:=gv ok (.inl e)
theorem gw {ks:O4 Key} (ok:HOk P w H h) (e:H a=some (.tup (ks.map kV))):(tupleKind (bZ P w)).is h ks a:=by
 obtain⟨_,Kd,r,o,h1,h2,n,h3⟩:=(show aI P w H h a (.tup (ks.map kV)) from ok a _ e);exact⟨o,Kd.toArray,n,h1,h2,h3,by simpa using qO r⟩
theorem gx (ok:HOk P w H h) (e:Rd H a (.dT Kb)):Kb.length<=sizeLine/\(a==sysModules)=false/\
  ∃xs,KT H Kb xs/\h.DictOfH (tupleKind (bZ P w)) a xs:=by
 obtain⟨z,y,xs,r,o,es,ep,h1,h2,h3,h4,h5⟩:=(show aI P w H h a (.dT Kb) from jF ok e);refine⟨z,y,xs,r,o,es,ep,h1,h2,h3,h4,fun x hx=> ?_,h5⟩;have all:∀{l:O4 (O4 Key×V)}{m:O4 (O4 Key×OZ×MR)},KT H l m->∀x∈m,(tupleKind (bZ P w)).is h x.1 x.2.1:=by
  intro l m q;induction q with
  |nil=>intro x hx;exact nomatch hx
  | @cons p q ps qs hq t ih=>
   intro x hx;rcases AJ.mp hx with e|hx
   .subst e;exact gw ok (by rw[<-hq.1];exact hq.2.1)
   .exact ih x hx
 exact all r x hx
def qP (ok:HOk P w H h) (e:H a=some (.dT Kb)):Kb.length<=sizeLine/\(a==sysModules)=false/\
  ∃xs,KT H Kb xs/\h.DictOfH (tupleKind (bZ P w)) a xs:=gx ok (.inl e)
end
def di (H:Hp) (a:OZ) (y:V) (r:O7 V):Prop:=
 (∃Kb k,Rd H a (.dK Kb)/\y=kV k/\r=bJ Kb k)\/∃Kb k b,Rd H a (.dT Kb)/\y= .ref b/\H b=some (.tup (k.map kV))/\r=bJ Kb k
def gy (H:Hp) (a:OZ) (y v:V) (H':Hp):Prop:=
 (∃Kb k,H a=some (.dK Kb)/\y=kV k/\Kb.length<sizeLine/\H'=upd H a (.dK (bD Kb k v)))\/
 ∃Kb k b,H a=some (.dT Kb)/\y= .ref b/\H b=some (.tup (k.map kV))/\Kb.length<sizeLine/\H'=upd H a (.dT (bD Kb k v))
def di.t {k:O4 Key} (e:H a=some (.dT Kb)) (eb:H b=some (.tup (k.map kV))):di H a (.ref b) (bJ Kb k):= .inr ⟨Kb,k,b, .inl e,rfl,eb,rfl⟩
def gy.t {k:O4 Key}(e:H a=some (.dT Kb)) (eb:H b=some (.tup (k.map kV))) (hl:Kb.length<sizeLine):
  gy H a (.ref b) v (upd H a (.dT (bD Kb k v))):= .inr ⟨Kb,k,b,e,rfl,eb,hl,rfl⟩
section
variable {X:Cx}{J':O4 (OZ×Obj)}{σ:St}{H:Hp}{s:OY}{a:OZ}{y v:V}{u r:MR}{o:O7 V}{A:O3}{E:MR->OY->Prop}
theorem Inv.big (I:Inv X J' σ H s):sysModules<s.heap.objs.size:=by
 have h:mainGlobals<s.heap.objs.size:=(I.mod.glob.keeps I.bk).lt;exact Nat.lt_trans (by decide) h
theorem yD (hu:A.units+1<cLine) (I:Inv X J' σ H s) (g:di H a y (some v)) (ry:av y u) (h:∀w' s',Inv X J' σ H s'->av v w'->Q w' s'):
  wpAny (model X.prog X.w) A (getItem (.ref a) u) Q E s:=by
 rcases g with⟨Kb,k,e,ey,l⟩|⟨Kb,k,b,e,ey,eb,l⟩
 .subst ey;obtain⟨z,hd,vs,Kq,dd⟩:=gv I.hok e;obtain⟨w',hw,LB⟩:=cz.some_of (v:=v) (o:=valueAt vs k) (by rw[l];exact Kq.val k);exact wpAny_getItem_of (iA ry) dd.mapOf hw (h w' _ (I.tok _) LB)
 .subst ey;cases (show u=Value.ref b from ry);obtain⟨z,hd,xs,Kq,dd⟩:=gx I.hok e;obtain⟨w',hw,LB⟩:=cz.some_of (v:=v) (o:=(atKey xs k).map (·.2)) (by rw[l];exact Kq.val k);obtain⟨p,hp,hp2⟩:=AC.mp hw;refine wpAny_getItem_heap (DY hu) (gw I.hok eb) dd hp ?_;rw[hp2];exact h w' _ (I.tok _) LB
theorem yE (hu:A.units+1<cLine) (I:Inv X J' σ H s) (g:di H a y o) (ry:av y u) (h:∀s',Inv X J' σ H s'->Q (.bool (!o.isSome)) s'):
  wpAny (model X.prog X.w) A (compareOp .NotIn u (.ref a)) Q E s:=by
 rcases g with⟨Kb,k,e,ey,l⟩|⟨Kb,k,b,e,ey,eb,l⟩
 .subst ey;obtain⟨z,hd,vs,Kq,dd⟩:=gv I.hok e;refine wpAny_notIn_of (iA ry) hd dd.mapOf ?_;rw[<-(Kq.val k).isSome_eq,<-l];exact h _ (I.tok _)
 .subst ey;cases (show u=Value.ref b from ry);obtain⟨z,hd,xs,Kq,dd⟩:=gx I.hok e;refine wpAny_notIn_heap (DY hu) (gw I.hok eb) hd dd ?_;have q:=(Kq.val k).isSome_eq;rw[Option.isSome_map] at q;rw[<-q,<-l];exact h _ (I.tok _)
def gz {t':Nat}{ob:HO} (I:Inv X J' σ H s) (mu:Mut (H a)) (hs:Heap.SameBut a s.heap h') (he:∃q,h'.get? a=some q) (new:aI X.prog X.w (upd H a ob) h' a ob):
  Inv X J' σ (upd H a ob) {s with heap:=h',toks:=t'}:=
 I.write (x:=a) (e:=a) mu (.inl rfl) (fun b q hb z=>(hs.2 b hb).trans z) he new
def yF {Kb:O4 (Key×V)}{vs:O4 (Key×MR)} (z:Kb.length<=sizeLine) (hd:(a==sysModules)=false) (Kq:KV Kb vs) (dd:h'.DictOf (bZ P w) a vs):
  aI P w H' h' a (.dK Kb):=⟨z,hd,vs,Kq,dd⟩
theorem yG {Q:Unit->OY->Prop} (hu:A.units+1<cLine) (I:Inv X J' σ H s) (g:gy H a y v H') (ry:av y u) (rv:av v r) (h:∀s',Inv X J' σ H' s'->Q () s'):
  wpAny (model X.prog X.w) A (setItem (.ref a) u r) Q E s:=by
 rcases g with⟨Kb,k,e,ey,l,eH⟩|⟨Kb,k,b,e,ey,eb,l,eH⟩
 .subst ey eH;obtain⟨z,hd,vs,Kq,dd⟩:=yC I.hok e;have hz:vs.length<=sizeLine:=by rw[<-Kq.length];exact z
  have hl:(bD Kb k v).length<=sizeLine:=by have:=lw Kb k v;lia
  refine wpAny_setItem_pairs (hsz:=hz) (iA ry) dd fun h' Ng hs=>h _ ?_;have he:∃q,h'.get? a=some q:=let ⟨q,_,_,hq,_⟩:=Ng;⟨q,hq⟩;exact gz I (by rw[e];exact True.intro) hs he (yF hl hd (Kq.put k rv) Ng)
 .subst ey eH;cases (show u=Value.ref b from ry);obtain⟨z,hd,xs,Kq,dd⟩:=qP I.hok e;have hz:xs.length<=sizeLine:=by rw[<-CC Kq];exact z
  have hl:(bD Kb k v).length<=sizeLine:=by have:=lw Kb k v;lia
  refine wpAny_setItem_heap (hsz:=hz) (DY hu) (gw I.hok eb) dd fun h' Ng hs=>h _ ?_;obtain⟨q,es,ep,hq,h2,h3,h4,_,h5⟩:=Ng;refine gz I (by rw[e];exact True.intro) hs ⟨q,hq⟩ ⟨hl,hd,_,(Kq.put k eb rv).keeps fun c ys ec=> ?_,q,es,ep,hq,h2,h3,h4,h5⟩;rw[ax (kW ec e (fun z=>nomatch z))];exact ec
end
def gC (i:O5):Prop:=∀ov iv,subscripted i false ov iv=operate [ov,iv] (getItem ov iv)
theorem lx {prog:O0}{A:O3}{value Kw:O5}{T id:String}
  (hl:typeLookup (.type T) "__getitem__"=pure (some (.builtin id))) (hs:gC Kw)
  (h:wpAny (model prog w) A (eval value env) (fun o s₁=>wpAny (model prog w) A (eval Kw env) (fun i s₂=>s₂.TypeIs o T/\wpAny (model prog w) A (getItem o i) Q E s₂) E s₁) E s):
  wpAny (model prog w) A (eval (.Subscript value Kw pos) env) Q E s:=by
 refine Subscript_ (Bm h (fun o s₁ h₁=>Bm h₁ (fun i s₂ h₂=> ?_) fun _ _ x=>x) fun _ _ x=>x);obtain⟨hT,h₂⟩:=h₂;unfold subscriptTail;refine A0 ?_;rw[getitemInPython_of_ne hT.not_modules];refine A0 (Bv hT hl ?_);have fin:wpAny (model prog w) A (subscripted Kw false o i) (fun r s₃=>wpAny (model prog w) A (letTemporaryGo value o r>>=fun _=>pure r) Q E s₃) E s₂:=by
  rw[hs o i];exact wpAny_operating (Bm h₂ (fun r s₃ h₃=>A0 (wpAny_letTemporaryGo (A3 h₃))) fun _ _ x=>x)
 first
  |exact A3 (A0 fin)
  |exact A0 (A3 (A0 fin))
  |exact A0 fin
theorem yH {σ:St}(I:Inv X J' σ H s) (g:di H a y o):s.TypeIs (.ref a) "dict":=by
 rcases g with⟨Kb,k,e,_,_⟩|⟨Kb,k,b,e,_,_,_⟩
 .obtain⟨_,_,vs,_,dd⟩:=gv I.hok e;exact dd.typeIs
 .obtain⟨_,_,xs,_,dd⟩:=gx I.hok e;exact dd.typeIs
inductive tDGet_ (Q:VK) (x:V) (y:V) (H2:Hp):Prop
 |mk a v:x= .ref a->di H2 a y (some v)->Q v H2->tDGet_ Q x y H2
def yI (td ty:TE):TE:=fun σ H Q=>td σ H fun x H1=>ty σ H1 fun y H2=>tDGet_ Q x y H2
inductive tDNotIn_ (Q:VK) (y:V) (x:V) (H2:Hp):Prop
 |mk a o:x= .ref a->di H2 a y o->Q (.bl (!o.isSome)) H2->tDNotIn_ Q y x H2
def yJ (ty td:TE):TE:=fun σ H Q=>ty σ H fun y H1=>td σ H1 fun x H2=>tDNotIn_ Q y x H2
inductive sDPut_ (D:Ends) (σ:St) (v:V) (x:V) (y:V) (H3:Hp):Prop
 |mk a H4:x= .ref a->gy H3 a y v H4->D.nx σ H4->sDPut_ D σ v x y H3
def yK (td ty tv:TE):TS:=fun D σ H=>tv σ H fun v H1=>td σ H1 fun x H2=>ty σ H2 fun y H3=>sDPut_ D σ v x y H3
section
variable {X:Cx}{o i e value:O5}{pos Kv Ln:Pos}{td ty tv:TE}
theorem qQ (hu:X.A.units+1<cLine) (ho:PE X o td) (hi:PE X i ty) (hs:gC i):PE X (.Subscript o i pos) (yI td ty):=by
 intro J' s σ H Q I h;refine lx PySem.F.slot_dict_getitem.lookup hs (thn (ho J' s σ H _ I h) fun u s1 ⟨x,H1,I1,rx,q1⟩=>thn (hi J' s1 σ H1 _ I1 q1) fun iv s2 ⟨y,H2,I2,ry,a,v,ex,g,q2⟩=> ?_);subst ex;obtain rfl:u=Value.ref a:=rx;exact⟨yH I2 g,yD hu I2 g ry fun w' s3 I3 LB=>⟨v,H2,I3,LB,q2⟩⟩
theorem yL (hu:X.A.units+1<cLine) (hi:PE X i ty) (ho:PE X o td):PC X .NotIn i o (yJ ty td):=by
 intro J' s σ H Q I h;refine thn (hi J' s σ H _ I h) fun iv s1 ⟨y,H1,I1,ry,q1⟩=>thn (ho J' s1 σ H1 _ I1 q1) fun u s2 ⟨x,H2,I2,rx,a,ov,ex,g,q2⟩=> ?_;subst ex;obtain rfl:u=Value.ref a:=rx;exact yE hu I2 g ry fun s3 I3=>⟨.bl (!ov.isSome),H2,I3,rfl,q2⟩
theorem qR (hu:X.A.units+1<cLine) (ho:PE X o td) (hi:PE X i ty) (hv:PE X value tv) (hs:swapsWith value (some (.Subscript o i Kv)) pos.line X.env=pure false):
  PS X (.Assign [.Subscript o i Kv] value pos) (yK td ty tv):=by
 intro J' s σ H D I h;refine wpAny_Assign_Subscript (thn (hv J' s σ H _ I h) fun r s1 ⟨v,H1,I1,rv,q1⟩=>thn (ho J' s1 σ H1 _ I1 q1) fun u s2 ⟨x,H2,I2,rx,q2⟩=>thn (hi J' s2 σ H2 _ I2 q2) fun iv s3 ⟨y,H3,I3,ry,a,H4,ex,g,q3⟩=> ?_) hs;subst ex;obtain rfl:u=Value.ref a:=rx;exact yG hu I3 g ry rv fun s4 I4=>⟨σ,H4,I4,q3⟩
end
def qS (h:O6) (hb:sysModules<h.objs.size):aI P w H (h.push {cls:= .type "dict",data:= .dict #[]}) h.objs.size (.dT []):=
 ⟨AQ _,DF.mpr (Ne.symm (AT hb)),[], .nil,_, #[],0,AI _ rfl,⟨rfl,rfl,rfl⟩,rfl,rfl,List.nodup_nil⟩
def yM:TE:=fun _ H Q=>∀p,H p=none->Q (.ref p) (upd H p (.dT []))
section
variable {X:Cx}{pos:Pos}
def qT:PE X (.Dict [] [] pos) yM:=fun J' s σ H Q I h=>
 wpAny_Dict_empty ⟨.ref s.heap.objs.size,_,I.laid (a:=s.heap.objs.size) (o:= .dT []) (t':=s.toks) (fun _ _ q=>A4 _ q) (AB _) (qS s.heap I.big),rfl,h _ (I.hok.fresh (AB _))⟩
end
structure M2 (X:Cx) (o:O5) (m:Str) (KB:Pos) (e f:O5) (Kl:Pos):Prop where
 base:attributeBase o m X.env (eval o X.env)=eval o X.env
 few:((backTo Kl (starEach [e,f] X.env)).all (fun x=> !x.1)&&(backToKw Kl (keywordEach [] X.env)).all (fun x=>x.1.isSome)
  &&decide (([e,f]:List Expr).length+([]:List Keyword).length+(if([]:List Keyword).isEmpty then 0 else 1)<30))=true
 line:(KB.endLine==Kl.line)=true
 trees:backTo Kl (starEach [e,f] X.env)=[(false,eval e X.env),(false,eval f X.env)]
def IsD (H:Hp) (a:OZ):Prop:=(∃Kb,Rd H a (.dK Kb))\/∃Kb,Rd H a (.dT Kb)
theorem qU {σ:St}(I:Inv X J' σ H s) (d:IsD H a):
  s.TypeIs (.ref a) "dict"/\(∀b,Value.ref a= .ref b->∃ob,s.heap.get? b=some ob/\ob.dict=none)/\(a==sysModules)=false:=by
 rcases d with⟨Kb,e⟩|⟨Kb,e⟩
 .obtain⟨_,hd,vs,_,dd⟩:=gv I.hok e;refine⟨dd.typeIs,fun b q=> ?_,hd⟩;cases q;obtain⟨ob,_,_,h1,h2,_⟩:=dd;exact⟨ob,h1,h2.2.1⟩
 .obtain⟨_,hd,xs,_,dd⟩:=gx I.hok e;refine⟨dd.typeIs,fun b q=> ?_,hd⟩;cases q;obtain⟨ob,_,_,h1,h2,_⟩:=dd;exact⟨ob,h1,h2.2.1⟩
section
variable {X:Cx}{J':O4 (OZ×Obj)}{σ:St}{H:Hp}{s:OY}{a:OZ}{y d:V}{u r:MR}{o:O7 V}{A:O3}{E:MR->OY->Prop}
theorem yN (hu:A.units+1<cLine) (I:Inv X J' σ H s) (g:di H a y o) (ry:av y u) (rd:av d r) (h:∀w' s',Inv X J' σ H s'->av (o.getD d) w'->Q w' s'):
  wpAny (model X.prog X.w) A (call (.builtin "dict.get") [.ref a,u,r]) Q E s:=by
 rcases g with⟨Kb,k,e,ey,l⟩|⟨Kb,k,b,e,ey,eb,l⟩
 .subst ey;obtain⟨z,hd,vs,Kq,dd⟩:=gv I.hok e;refine call_meetsIn PySem.F.slot_dict_get dd.typeIs PySem.F.entry_dict_get (PySem.F.args_dict_get_3 _ _ _) (meets_dict_get_default (bZ X.prog X.w) a (iA ry) hd r) ⟨_,dd.mapOf,h _ _ (I.tok _) ?_⟩;rw[l];exact(Kq.val k).getD rd
 .subst ey;cases (show u=Value.ref b from ry);obtain⟨z,hd,xs,Kq,dd⟩:=gx I.hok e;refine call_meetsIn PySem.F.slot_dict_get dd.typeIs PySem.F.entry_dict_get (PySem.F.args_dict_get_3 _ _ _) (meetsH_dict_get_default (tupleKind (bZ X.prog X.w)) a b hd r) ⟨DY hu,k,xs,gw I.hok eb,dd,h _ _ (I.tok _) ?_⟩;rw[l];exact(Kq.val k).getD rd
end
inductive tDGet2_ (ty:TE) (tx:TE) (σ:St) (Q:VK) (x:V) (H1:Hp):Prop
 |mk a:x= .ref a->IsD H1 a->(ty σ H1 fun y H2=>tx σ H2 fun z H3=>∃o,di H3 a y o/\Q (o.getD z) H3)->tDGet2_ ty tx σ Q x H1
def yO (td ty tx:TE):TE:=fun σ H Q=>td σ H fun x H1=>tDGet2_ ty tx σ Q x H1
section
variable {X:Cx}{o e f:O5}{KB Kl:Pos}{td ty tx:TE}
theorem yP (hu:X.A.units+1<cLine) (ho:PE X o td) (he:PE X e ty) (hf:PE X f tx) (m:M2 X o "get" KB e f Kl):PE X (.Call (.Attribute o "get" KB) [e,f] [] Kl) (yO td ty tx):=by
 intro J' s σ H Q I h;refine wpAny_Call_method m.base m.few m.line PySem.F.plainAttrs_dict PySem.F.slot_dict_get PySem.F.type_dict_get (thn (ho J' s σ H _ I h) fun u s1 ⟨x,H1,I1,rx,a,ex,d,q1⟩=> ?_);subst ex;obtain rfl:u=Value.ref a:=rx;obtain⟨t1,t2,_⟩:=qU I1 d;refine⟨t1,t2, ?_⟩;rw[m.trees];refine Calls.callWith_builtin rfl (Calls.evalArgs_plain (D1 (thn (he J' s1 σ H1 _ I1 q1) fun iv s2 ⟨y,H2,I2,ry,q2⟩=>
  D1 (thn (hf J' s2 σ H2 _ I2 q2) fun fv s3 ⟨z,H3,I3,rz,ov,g,q3⟩=>Calls.spliced_nil ?_))))
 exact yN hu I3 g ry rz fun w' s4 I4 LB=>⟨_,H3,I4,LB,q3⟩
end
section
variable {X:Cx}{pos:Pos}{a b c d:O5}{ta tb tc td:TE}
def CB (m:Nat) (i j:Int):Prop:=i.natAbs<2^m/\j.natAbs<2^m
def yQ {m:Nat} (hm:m+m<=134217728):OpR X (binaryOp .Mult) (rI (CB m) fun i j=> .int (i*j)):=
 opI fun _ _ _ _ _ _ _ hc q=>mul_int q (IntMulOk.of_le (intBits_le_iff.mpr hc.1) (intBits_le_iff.mpr hc.2) hm)
theorem yR:512+512<=134217728:=by decide
theorem iB:bL X (.builtin "isinstance") (fun xs H Q=>∃x n t b,xs=[x, .ty n]/\TyOf X.K H x t/\W.kitOne X.K t (.type n)=some b/\Q (.bl b) H):=by
 intro J' s σ H xs us Q I r h;obtain⟨x,n,t,b,rfl,ty,e,q⟩:=h;obtain⟨u,w',rfl,ru,LB⟩:=lq r;obtain rfl:w'=Value.type n:=LB;exact xV I ru ty e fun tk=>⟨.bl b,H,I.tok tk,rfl,q⟩
end
section
open PySem.W
variable {K:Frag}
theorem qV {t:String}:kitOne K (.type t) (.type t)=some true:=by
 unfold kitOne;rw[A8 (by simp)]
theorem gD {t c:String}{b:Bool} (h1:(Value.type t==Value.type c)=false) (h2:kitMeta c=true) (h3:(fastBuiltinMro t).map (·.contains (Value.type c))=some b):kitOne K (.type t) (.type c)=some b:=by
 unfold kitOne;rw[A6 (by rw[h1];decide)];unfold kitCls;show(if kitMeta c=true then subIn K (.type t) (.type c) else none)=some b;rw[A8 h2];exact h3
theorem yS:kitOne K (.type "int") (.type "bool")=some false:=gD (by ac_nf) (by ac_nf) (by ac_nf)
theorem yT:kitOne K (.type "bool") (.type "int")=some true:=gD (by ac_nf) (by ac_nf) (by ac_nf)
end
theorem aX [Decidable c] (h1:c->A) (h2:¬c->B):if decide c=true then A else B:=by
 by_cases h:c
 .rw [A8 (Ag h)];exact h1 h
 .rw [A6 (by rw[AX h];decide)];exact h2 h
theorem yU [Decidable c] (h1:¬c->A) (h2:c->B):if(!decide c)=true then A else B:=by
 by_cases h:c
 .rw [A6 (by rw[Ag h];decide)];exact h2 h
 .rw [A8 (by rw[AX h];rfl)];exact h1 h
def cM {i:Int} (h1:i=j->A) (h2:i≠j->B):if decide (V.int i=V.int j)=true then A else B:=aX (fun h=>h1 (V.int.inj h)) fun h=>h2 fun e=>h (BN V.int e)
def yV {i:Int} (h1:i≠j->A) (h2:i=j->B):if(!decide (V.int i=V.int j))=true then A else B:=yU (fun h=>h1 fun e=>h (BN V.int e)) fun h=>h2 (V.int.inj h)
theorem ae.put {H1:Hp}{o:HO} (s:ae H H1) (n:H l=none):ae H (upd H1 l o):=fun b u e=>by
 rw[ax (bG e n)];exact s b u e
def ae.new {o:HO} (n:H l=none):ae H (upd H l o):=(ae.refl H).put n
theorem yW {prog:Program}{w:World}{A:Around}{R:Result->Shared->Prop}{s:Shared}{KQ aE:Expr}{it acc:Value}(I:Nat->Shared->Prop)
  (turn:∀n s,I n s->wpAny (model prog w) A (pyNext it) (fun r s₁=>match r with
   |none=>R (.ok .next) s₁
   |some v=>wpAny (model prog w) A (letOwnedTupleGo KQ it v) (fun _ s₁'=>wpAny (model prog w) A (assign KQ env v) (fun _ s₂=>
     wpAny (model prog w) A (forIn K6 true fun c r=>if r=true then do let ok<-isTrue c env (eval c env);pure (ForInStep.yield ok) else pure (ForInStep.yield r)) (fun ok s₃=>
      if ok=true then wpAny (model prog w) A (eval Lp env) (fun x s₄=>
       wpAny (model prog w) A (call (.builtin "list.append") [acc,x]) (fun _ s₅=>∃m,m<n/\I m s₅) (notedBy (model prog w) A env fun e s'=>R (.error e) s') s₄) (notedBy (model prog w) A env fun e s'=>R (.error e) s') s₃
      else∃m,m<n/\I m s₃) (notedBy (model prog w) A env fun e s'=>R (.error e) s') s₂) (notedBy (model prog w) A env fun e s'=>R (.error e) s') s₁') (notedBy (model prog w) A env fun e s'=>R (.error e) s') s₁) (notedBy (model prog w) A env fun e s'=>R (.error e) s') s)
  (n:Nat) (h:I n s):
  codeAny (model prog w) A (.compLoop (.ListComp Lp [⟨KQ,aE,K6,0⟩] scope pos) 0 it acc env) R s:=by
 refine codeAny_loop rfl I (fun n s hI=> ?_) n h;show wpAny _ A ((compTurn (.ListComp Lp [⟨KQ,aE,K6,0⟩] scope pos) 0 it acc env).onRaise (fun x=>do noteFrame x env;theTreesLotGoes x)) _ _ s;refine wpAny_noted ?_;rw[compTurn_list];refine A0 (wpAny_standAt (A0 (Bm (turn n s hI) (fun r s₁ h₁=> ?_) fun _ _ h'=>h')));cases r with
 |none=>exact A3 h₁
 |some v=>
  refine A0 (Bm h₁ (fun _ s₁' h₁'=>A0 (Bm h₁' (fun _ s₂ h₂=>A0 (Bm h₂ (fun ok s₃ h₃=> ?_) fun _ _ h'=>h')) fun _ _ h'=>h')) fun _ _ h'=>h');cases ok with
  |false=>exact A3 ⟨rfl,h₃⟩
  |true=>
   exact A0 (A0 (Bm h₃ (fun x s₄ h₄=>A0 (Bm h₄ (fun _ s₅ h₅=>A3 (A3 ⟨rfl,h₅⟩)) fun _ _ h'=>h')) fun _ _ h'=>h'))
def cE (env:Env):O4 (Str×NameKind)->O4 (Str×OZ)->O4 (Str×OZ)
 |[],cs=>cs
 |(n,k)::r,cs=>cE env r (if k= .free then(n,(env.cells.lookup n).getD 0)::cs else cs)
theorem lz {env:Env}:∀(ns:List (Str×NameKind)) (cs:List (Str×Addr)),(∀y∈ns,y.2= .free->∃c,env.cells.lookup y.1=some c)->
  (forIn ns cs fun(x:Str×NameKind) (r:List (Str×Addr))=>(if(x.2== .free)=true then do let c<-cellOf env x.1;pure (ForInStep.yield ((x.1,c)::r)) else pure (ForInStep.yield r):Sem (ForInStep (List (Str×Addr)))))=(pure (cE env ns cs):Sem _)
 |[],cs,_=>rfl
 |(n,k)::r,cs,h=>by
  have hr:=fun y hy=>h y (AL _ hy);by_cases hk:k= .free
  .obtain⟨c,hc⟩:=h (n,k) AH hk;subst hk;rw[Ci];have e:cellOf env n=pure c:=by unfold cellOf;rw[hc]
   simp only[beq_self_eq_true,C1,e,pure_bind];rw[lz r _ hr];show _=pure (cE env r (if NameKind.free=NameKind.free then(n,(env.cells.lookup n).getD 0)::cs else cs));rw[A8 rfl,show env.cells.lookup n=some c from hc];rfl
  .have hb:(k==NameKind.free)=false:=by simpa using hk
   rw[Ci];simp only[hb,AG,Am,pure_bind];rw[lz r _ hr];show _=pure (cE env r (if k=NameKind.free then(n,(env.cells.lookup n).getD 0)::cs else cs));rw[A6 hk]
theorem yX (h:∀y∈scope.names,y.2= .free->∃c,env.cells.lookup y.1=some c):closureFor scope env=pure (cE env scope.names []):=by
 unfold closureFor;have e:=lz scope.names [] h;simp only[bind_pure] at e⊢;exact e
theorem qW {env:Env}{x:Str}{c:OZ}:∀(ns:O4 (Str×NameKind)) (cs:O4 (Str×OZ)),(∀y∈ns,y.2= .free->∃c,env.cells.lookup y.1=some c)->(∀x c,cs.lookup x=some c->env.cells.lookup x=some c)->
  (cE env ns cs).lookup x=some c->env.cells.lookup x=some c
 |[],cs,_,hc,e=>hc x c e
 |(n,k)::r,cs,h,hc,e=>by
  unfold cE at e;refine qW r _ (fun y hy=>h y (AL _ hy)) (fun x' c' e'=> ?_) e;by_cases hk:k= .free
  .rw [A8 hk] at e';obtain⟨c0,h0⟩:=h (n,k) AH hk;rw[h0] at e';rw[CM] at e';by_cases q:x'==n
   .rw [q] at e';cases e';rw[DO.mp q];exact h0
   .have q':(x'==n)=false:=by simpa using q
    rw[q'] at e';exact hc x' c' e'
  .rw [A6 hk] at e';exact hc x' c' e'
theorem qX {env:Env}{x:Str}:∀(ns:O4 (Str×NameKind)) (cs:O4 (Str×OZ)),(∃c,cs.lookup x=some c)->∃c,(cE env ns cs).lookup x=some c
 |[],cs,h=>h
 |(n,k)::r,cs,h=>by
  unfold cE;refine qX r _ ?_;by_cases hk:k= .free
  .rw [A8 hk,CM];by_cases q:x==n
   .rw [q];exact⟨_,rfl⟩
   .have q':(x==n)=false:=by simpa using q
    rw[q'];exact h
  .rw [A6 hk];exact h
theorem lA {env:Env}{x:Str}:∀(ns:O4 (Str×NameKind)) (cs:O4 (Str×OZ)),(x,NameKind.free)∈ns->∃c,(cE env ns cs).lookup x=some c
 |(n,k)::r,cs,h=>by
  unfold cE;rcases AJ.mp h with e|e
  .cases e;rw[A8 rfl];exact qX r _ ⟨_,by rw[CM,beq_self_eq_true]⟩
  .exact lA r _ e
def Cx.comp (X:Cx) (scope:Scope) (C:OZ) (N:O4 Str) (s₀:OY) (H₀:Hp) (ex:O4 OZ) (E:MR->OY->Prop):Cx where
 prog:=X.prog
 w:=X.w
 K:=X.K
 mg:=X.mg
 base:=X.base
 A:=X.A
 N:=N
 s₀:=s₀
 H₀:=H₀
 env:=compEnvC scope (cE X.env scope.names []) C X.env
 outer:=X.stack
 stack:=X.stack
 ex:=ex
 fn:=fun _=>false
 calm:=X.calm
 pn:=[]
 xe:=E
def fP (X:Cx) (K6:List Expr) (t:TT):Prop:=
 ∀(J':List (Addr×Obj)) (s:Shared) (σ:St) (H:Hp) (Q:Bool->Hp->Prop),Inv X J' σ H s->t σ H Q->
  wpAny (model X.prog X.w) X.A (forIn K6 true fun c r=>if r=true then do let ok<-isTrue c X.env (eval c X.env);pure (ForInStep.yield ok) else pure (ForInStep.yield r)) (TP X J' σ Q) X.xe s
def iC:TT:=fun _ H Q=>Q true H
def cp :fP X [] iC:=fun _ _ _ H _ I h=>wpAny_tests_nil ⟨H,I,h⟩
def iD {c:O5}{t:TT} (h:PT X c t):fP X [c] t:=fun J' s σ H Q I q=>wpAny_tests_one (h J' s σ H Q I q)
def dj (own:Nat) (js:O4 Nat) (σ:St):St:=List.replicate own none++js.map fun j=>(σ[j]?).getD none
def iE (J:It) (own:Nat) (js:O4 Nat) (g:TG) (ti:TT) (te:TE) (σ:St) (H1:Hp) (acc:OZ) (Q:VK):Prop:=
 ∃Wq:Nat->Nat->Hp->Prop,(∃m,Wq 0 m (upd H1 acc (.lst [])))/\∀i m H2,Wq i m H2->
  (J.stop i H2/\Q (.ref acc) H2)\/(J.go i H2/\∀x H3,J.yld i H2 x H3->g x (dj own js σ) H3 fun σ4 H4=>ti σ4 H4 fun b H5=>
   if b=true then te σ4 H5 fun y H6=>rAppend (.ref acc) [y] H6 fun _ H7=>∃m',m'<m/\Wq (i+1) m' H7 else∃m',m'<m/\Wq (i+1) m' H5)
def iF (own:Nat) (js:O4 Nat) (wi:TI) (g:TG) (ti:TT) (te:TE):TE:=fun σ H Q=>wi σ H fun J H1=>∀acc,H1 acc=none->iE J own js g ti te σ H1 acc Q
def fQ {α:Type}{t:Sem α}{Q Q':α->OY->Prop}{M:Model}{A:O3}(h:wpAny M A t Q (fun _ _=>False) s) (hQ:∀a s,Q a s->Q' a s):wpAny M A t Q' E s:=Bm h hQ fun _ _ f=>f.elim
theorem lB {scope:Scope}{env:Env}{x:Str}:∀{names:O4 (Str×NameKind)},((names.map fun(n,k)=>if(k==NameKind.free&&env.scope.kind== .function&&env.kindOf n==some .cell) then(n,NameKind.cell) else(n,k)).lookup x=some .cell\/
  (names.map fun(n,k)=>if(k==NameKind.free&&env.scope.kind== .function&&env.kindOf n==some .cell) then(n,NameKind.cell) else(n,k)).lookup x=some .free)->(∀y∈names,y.2≠ .cell)->(x,NameKind.free)∈names
 |[],h,_=>by simp at h
 |(n,k)::r,h,hc=>by
  have hr:∀y∈r,y.2≠ .cell:=fun y hy=>hc y (AL _ hy);have h0:k≠ .cell:=hc (n,k) AH;rw[AK,CM] at h;by_cases hb:(k==NameKind.free&&env.scope.kind== .function&&env.kindOf n==some .cell)=true
  .rw [A8 hb] at h;dsimp only at h;by_cases q:x==n
   .have hk:k= .free:=by simp only[A9,DO] at hb;exact hb.1.1
    rw[DO.mp q,hk];exact AH
   .have q':(x==n)=false:=by simpa using q
    rw[q'] at h;exact AL _ (lB (scope:=scope) h hr)
  .rw [A6 hb] at h;dsimp only at h;by_cases q:x==n
   .rw [q] at h;dsimp only at h;have hk:k= .free:=by
     rcases h with h|h
     .exact absurd (Ao h) h0
     .exact Ao h
    rw[DO.mp q,hk];exact AH
   .have q':(x==n)=false:=by simpa using q
    rw[q'] at h;exact AL _ (lB (scope:=scope) h hr)
def ft (own:Nat) (g:TG):Prop:=∀v σ H (Q:St->Hp->Prop),g v σ H Q->g v σ H fun σ' H'=>Q σ' H'/\σ'.length=σ.length/\∀i,own<=i->σ'[i]? =σ[i]?
theorem cg (h:i<own):ft own (bu i):=fun v σ H Q q=>⟨q,BU ..,fun j hj=>by rw[Bl (by lia)]⟩
theorem yY (own:Nat) (js:O4 Nat) (σ:St):(dj own js σ).length=own+js.length:=by simp[dj]
theorem qY {σ:St}(h:(dj own js σ)[i]? =some (some v)):own<=i/\∃j,js[i-own]? =some j/\σ[j]? =some (some v):=by
 unfold dj at h;by_cases hi:i<own
 .rw [Bp (by simpa using hi),Co,A8 hi] at h;cases h
 .rw [BS (by simpa using hi),B2,AF] at h;refine⟨by lia, ?_⟩;cases e:js[i-own]? with
  |none=>rw[e] at h;cases h
  |some j=>
   rw[e] at h;refine⟨j,rfl, ?_⟩;have h':(σ[j]?).getD none=some v:=Ao h;cases e2:σ[j]? with
   |none=>rw[e2] at h';cases h'
   |some o=>rw[e2] at h';exact BN some h'
theorem qZ {Lp aE:O5}{K6:O4 O5}{pos ps:Pos}{wi:TI}{ti:TT}(hc:X.calm=true)
  (KD:∀y∈scope.names,y.2≠ .cell) (KM:scope.kind= .function) (K7:∀y∈scope.names,y.2= .local->scope.names.lookup y.1=some .local)
  (KZ:∀y∈scope.names,y.2= .free->X.env.kindOf y.1=some .cell\/X.env.kindOf y.1=some .free) (Ke:N.length=own+js.length)
  (L':∀(i j:Nat) (x:Str),js[i]? =some j->N[own+i]? =some x->X.N[j]? =some x/\(x,NameKind.free)∈scope.names/\(X.env.kindOf x=some .cell\/X.env.kindOf x=some .free)/\((relabel scope X.env).names.lookup x=some .cell\/(relabel scope X.env).names.lookup x=some .free))
  (hi:PI X tg aE wi) (hg:∀C s₀ H₀ ex,PG (X.comp scope C N s₀ H₀ ex fun _ _=>False) tg g) (ho:ft own g) (ht:∀C s₀ H₀ ex,fP (X.comp scope C N s₀ H₀ ex fun _ _=>False) K6 ti) (he:∀C s₀ H₀ ex,PE (X.comp scope C N s₀ H₀ ex fun _ _=>False) Lp te)
  {σ:St}{Q:VK}{use:O7 (MR->Sem Unit)}{RQ:MR->OY->Prop} (I:Inv X J' σ H s) (h:iF own js wi g ti te σ H Q)
  (fin:∀(acc C:OZ) (H3:Hp) (s4:OY) (m:Str->O7 MR),Inv X J' σ H3 s4->s4.heap.Ns C m->H3 C=none->C≠X.env.locals->C∉X.fs->X.s₀.heap.objs.size<=C->(∀x c,X.env.cells.lookup x=some c->c≠C)->(∀p∈X.pn++J',p.1≠C)->
   Q (.ref acc) H3->compPost (model X.prog X.w) X.A X.xe use RQ (.ref acc) C (.ok .next) s4)
  (hs:∀x,foldedSetIterable aE X.env x=pure x:=by intro _;rfl):
  wpAny (model X.prog X.w) X.A (comprehension (.ListComp Lp [⟨tg,aE,K6,0⟩] scope pos) scope X.env ps (newList []) false (eval aE X.env) use) RQ X.xe s:=by
 have hcl:∀y∈scope.names,y.2= .free->∃c,X.env.cells.lookup y.1=some c:=fun y hy hf=>I.ok.has y.1 (KZ y hy hf);refine wpAny_comprehension_free (use:=use) rfl hs (yX hcl) KM K7 (thn (hi J' s σ H _ I h) fun v s1 h1=>thn h1 fun itv s2 h2=> ?_);obtain⟨it,fp,tn,J,H2,e,I2,T,Lo,f2,q⟩:=h2;subst e;have nf:H2 s2.heap.objs.size=none:=I2.hok.fresh (AB _);obtain⟨Wq,⟨m0,w0⟩,turn⟩:=q s2.heap.objs.size nf;refine Au (wpAny_newFunctionEnv KD (by intro y hy;simp at hy) (fun h₁ Oi Nv=> ?_) KM);dsimp only at Oi Nv⊢;generalize hP2:s2.heap.push {cls:= .type "list",dict:=none,data:= .seq ([]:O4 MR).toArray}=P2 at Oi Nv⊢;have hC:P2.objs.size=s2.heap.objs.size+1:=by rw[<-hP2,B4]
 have NV:s2.heap.objs.size<P2.objs.size:=by rw[hC];exact BW _
 have kp:∀b o,s2.heap.get? b=some o->h₁.get? b=some o:=fun b o e=>Nv.extBut b o (AT (Nat.lt_trans (AM e) NV)) (A4 _ (hP2▸A4 _ e));have Kc:h₁.get? s2.heap.objs.size=some {cls:= .type "list",dict:=none,data:= .seq ([]:O4 MR).toArray}:=Nv.extBut _ _ (AT NV) (A4 _ (hP2▸AI _ rfl));have Oj:∀x c,(cE X.env scope.names []).lookup x=some c->X.env.cells.lookup x=some c:=fun x c e=>qW scope.names [] hcl (fun _ _ z=>by simp at z) e;have cne:∀x c,(cE X.env scope.names []).lookup x=some c->c<s2.heap.objs.size/\H2 c=none:=fun x c e=>by
  obtain⟨v,o,ho,hd⟩:=I2.cell x c (Oj x c e);exact⟨AM ho,I2.freeC x c (Oj x c e)⟩
 have fpl:∀b∈fp,b<s2.heap.objs.size:=fun b hb=>by
  obtain⟨o,e,_⟩:=T.obj 0 _ Lo b hb;exact AM e
 have hX:(X.comp scope P2.objs.size N s2 H2 fp fun _ _=>False).Ok:={
  mod:=I.ok.mod
  kind:=KM
  glob:=I.ok.glob
  blt:=I.ok.blt
  above:=Ae NV
  inj:=fun x y c a b=>I.ok.inj x y c (Oj x c a) (Oj y c b)
  has:=fun x hx=>lA scope.names [] (lB (scope:=scope) (env:=X.env) hx KD)
  cab:=fun x c a _=>by cases (show false=true from a)
  hd:=I.ok.hd
  frames:=I.ok.frames
  stk:= .inl rfl
  exf:=fun b hb=>⟨AT (Nat.lt_trans (fpl b hb) NV),fun x c a=>(f2 b hb).2.2.2.2.1 x c (Oj x c a)⟩
  bs:=I2.bs
  bsz:=B7 I.ok.bsz I2.sz
  noex:=fun b o e hb=>by
   rcases(f2 b hb).2.2.2.1 with z|z
   .exact I.ok.noex b o e z
   .exact absurd (Ap (Ap (AM e) I.ok.bsz) z) (C6 _)
  exfs:=fun b hb z=>by
   rcases AJ.mp (I2.stkSub b z) with z|z
   .exact(f2 b hb).2.1 z
   .exact(f2 b hb).2.2.1 z
  funs:=I2.stack
  frf:=I2.stkFree}
 have I3:∀tk,Inv (X.comp scope P2.objs.size N s2 H2 fp fun _ _=>False) [] (dj own js σ) (upd H2 s2.heap.objs.size (.lst [])) {s2 with heap:=h₁,toks:=tk}:=fun tk=>{
  ok:=hX
  os:=rfl
  bare:=I2.bare
  base:=Un.laid kp (AB _) nf
  loc:=⟨_,Oi,fun i x v a b c=>by
   obtain⟨hio,j,hj,hv⟩:=qY b;obtain⟨h3,h4,h5,h6⟩:=L' (i-own) j x hj (by rw[show own+(i-own)=i by lia];exact a);obtain⟨m,hn,hl⟩:=I2.loc;obtain⟨u,ru,lk⟩:=hl j x v h3 hv (.inr h5);refine⟨u,ru, .inr ⟨h6, ?_⟩⟩;rcases lk with⟨z,_⟩|⟨_,c0,z1,z2⟩
   .rcases h5 with h5|h5<;>(rw[h5] at z;cases z)
   .obtain⟨c1,hc1⟩:=lA (env:=X.env) scope.names [] h4;have:=Oj x c1 hc1;rw[z1] at this;cases this;obtain⟨o,ho,hd⟩:=z2;exact⟨c0,hc1,o,kp _ _ ho,hd⟩⟩
  cell:=fun x c a=>by
   obtain⟨v,o,ho,hd⟩:=I2.cell x c (Oj x c a);exact⟨v,o,kp _ _ ho,hd⟩
  free:=by
   show upd H2 _ _ P2.objs.size=none;rw[ax (Be NV)];exact I2.hok.fresh (Ae NV)
  freeC:=fun x c a=>by
   rw[ax (AT (cne x c a).1)];exact(cne x c a).2
  pin:=fun p hp=>absurd (show p∈([]:O4 (OZ×Obj)) from hp) (by simp)
  hok:=I2.hok.laid kp (AB _) ⟨AQ _,[],0, .nil,Kc⟩
  len:=by rw[yY];exact Ke.symm}
 have fr0:∀b∈fp,upd H2 s2.heap.objs.size (.lst []) b=none:=fun b hb=>by
  rw[ax (AT (fpl b hb))];exact(f2 b hb).1
 have st3:tn 0 h₁:=T.keep 0 _ _ Lo fun b _ o e=>kp b o e;have L9:∀{H':Hp},(∀b∈fp,H' b=none)->∀b∈fp,cm (X.comp scope P2.objs.size N s2 H2 fp fun _ _=>False) [] H' b:=fun hn b hb=>
  ⟨hn b hb,(hX.exf b hb).1,hX.exfs b hb, .inl hb,fun x c a=>(hX.exf b hb).2 x c a,fun p hp=>absurd (show p∈([]:O4 (OZ×Obj)) from hp) (by simp)⟩
 have loop:∀s₃:OY,s₃={s2 with heap:=h₁,toks:=s2.toks+([]:O4 (Str×MR)).length}->
   codeAny (model X.prog X.w) X.A (.compLoop (.ListComp Lp [⟨tg,aE,K6,0⟩] scope pos) 0 (.ref it) (.ref s2.heap.objs.size) (compEnvC scope (cE X.env scope.names []) P2.objs.size X.env))
    (compPost (model X.prog X.w) X.A X.xe use RQ (.ref s2.heap.objs.size) P2.objs.size) s₃:=by
  rintro s₃ rfl;refine yW (fun n s'=>∃i H',Inv (X.comp scope P2.objs.size N s2 H2 fp fun _ _=>False) [] (dj own js σ) H' s'/\tn i s'.heap/\(∀b∈fp,H' b=none)/\Wq i n H') ?_ m0 ⟨0,_,I3 _,st3,fr0,w0⟩;rintro n s3 ⟨i,H3,J3,t3,fr3,w3⟩;rcases turn i n H3 w3 with⟨stop,qd⟩|⟨go,step⟩
  .refine fQ (T.done (X.comp scope P2.objs.size N s2 H2 fp fun _ _=>False) rfl rfl rfl hc i [] s3 _ H3 _ J3 (L9 fr3) t3 stop) fun r s4 ⟨hr,J4⟩=> ?_;subst hr;obtain⟨m,hn,_⟩:=J4.loc;have B:Un (frs X.stack) fp H2 H3 s2.heap s4.heap:=J4.base;have I5:Inv X J' σ H3 s4:=I2.call' J4.os B J4.hok J4.bare fun b hb=>by
    obtain⟨a1,a2,a3,a4,a5,a6⟩:=f2 b hb;exact⟨a4,a2,a5,a6⟩
   have hp:=I2.fpOk (H':=H3) (b:=P2.objs.size) (Ae NV) J4.free;obtain⟨a1,a2,a3,a4,a5,a6⟩:=hp;exact fin s2.heap.objs.size P2.objs.size H3 s4 m I5 hn a1 a2 a3 (B7 I2.sz (Ae NV)) a5 a6 qd
  .refine fQ (T.item (X.comp scope P2.objs.size N s2 H2 fp fun _ _=>False) rfl rfl rfl hc i [] s3 _ H3 _ J3 (L9 fr3) t3 go) fun r s4 ⟨u,hr,h4⟩=> ?_;subst hr;refine fQ h4 fun _ s5 ⟨x,H5,J5,r5,y5,t5,fr5⟩=> ?_;have J5':=J5.pinned (L9 fr5) (T.obj _ _ t5);refine fQ (hg _ _ _ _ _ s5 _ H5 x u _ J5' r5 (ho _ _ _ _ (step x H5 y5))) fun _ s6 ⟨σ6,H6,J6,q6,hl6,MC⟩=> ?_;have again:∀{s7:OY}{H7:Hp},Inv (X.comp scope P2.objs.size N s2 H2 fp fun _ _=>False) ([]++iw fp s5.heap) σ6 H7 s7->(∃m',m'<n/\Wq (i+1) m' H7)->
     ∃m,m<n/\∃i H',Inv (X.comp scope P2.objs.size N s2 H2 fp fun _ _=>False) [] (dj own js σ) H' s7/\tn i s7.heap/\(∀b∈fp,H' b=none)/\Wq i m H':=fun{s7 H7} J7 z=>by
    obtain⟨m',hm,w7⟩:=z;refine⟨m',hm,i+1,H7,J7.unpinned.weak (by rw[hl6]) (fun k v z=> ?_),T.keep _ _ _ t5 fun b hb o e=>(J7.pin (b,o) (Al _ (Al _ (jw hb e)))).1,fun b hb=> ?_,w7⟩
    .rw [MC k (qY z).1];exact z
    .obtain⟨o,e,d⟩:=T.obj _ _ t5 b hb;exact(J7.pin (b,o) (Al _ (Al _ (jw hb e)))).2.1
   refine fQ (ht _ _ _ _ _ s6 σ6 H6 _ J6 q6) fun ok s7 ⟨H7,J7,q7⟩=> ?_;cases ok with
   |false=>exact again J7 q7
   |true=>
    refine fQ (he _ _ _ _ _ s7 σ6 H7 _ J7 q7) fun y s8 ⟨yv,H8,J8,r8,q8⟩=> ?_;exact fQ (cU _ s8 σ6 H8 (.ref s2.heap.objs.size) [yv] (.ref s2.heap.objs.size) [y] _ J8 rfl (.cons r8 .nil) q8) fun _ s9 ⟨_,H9,J9,_,q9⟩=>again J9 q9
 exact codeAny_compStart_list (loop _ rfl) (T.self X.A 0 _ _ _ st3 (loop _ rfl))
theorem yZ {Lp aE:O5}{K6:O4 O5}{pos:Pos}{wi:TI}{ti:TT}(hc:X.calm=true)
  (KD:∀y∈scope.names,y.2≠ .cell) (KM:scope.kind= .function) (K7:∀y∈scope.names,y.2= .local->scope.names.lookup y.1=some .local)
  (KZ:∀y∈scope.names,y.2= .free->X.env.kindOf y.1=some .cell\/X.env.kindOf y.1=some .free) (Ke:N.length=own+js.length)
  (L':∀(i j:Nat) (x:Str),js[i]? =some j->N[own+i]? =some x->X.N[j]? =some x/\(x,NameKind.free)∈scope.names/\(X.env.kindOf x=some .cell\/X.env.kindOf x=some .free)/\((relabel scope X.env).names.lookup x=some .cell\/(relabel scope X.env).names.lookup x=some .free))
  (hi:PI X tg aE wi) (hg:∀C s₀ H₀ ex,PG (X.comp scope C N s₀ H₀ ex fun _ _=>False) tg g) (ho:ft own g) (ht:∀C s₀ H₀ ex,fP (X.comp scope C N s₀ H₀ ex fun _ _=>False) K6 ti) (he:∀C s₀ H₀ ex,PE (X.comp scope C N s₀ H₀ ex fun _ _=>False) Lp te)
  (hs:∀x,foldedSetIterable aE X.env x=pure x:=by intro _;rfl):PE X (.ListComp Lp [⟨tg,aE,K6,0⟩] scope pos) (iF own js wi g ti te):=by
 intro J' s σ H Q I h;rw[eval_ListComp];refine qZ hc KD KM K7 KZ Ke L' hi hg ho ht he I h (use:=none) (fun acc C H3 s4 m I5 hn c1 c2 c3 c4 c5 c6 q=> ?_) hs;refine⟨m,hn,fun h' sb=>⟨.ref acc,H3, ?_,rfl,q⟩⟩;exact I5.turned (t':=s4.toks) (it:=C) (fun b o hb e=>(sb.2 b hb).trans e) c1 c2 (.inr c4) c5 c6
theorem y3 {y:Str}{tg aE:Expr}{N:List Str}{js:List Nat}{wi:TI}{ti:TT}(hN:X.N.Nodup) (Lq:X.N[i]? =some y) (hy:Loc X.env.scope y) (hf:X.fn y=true\/X.env.scope.names.lookup y=some .local)
  (hc:X.calm=true)
  (KD:∀y∈scope.names,y.2≠ .cell) (KM:scope.kind= .function) (K7:∀y∈scope.names,y.2= .local->scope.names.lookup y.1=some .local)
  (KZ:∀y∈scope.names,y.2= .free->X.env.kindOf y.1=some .cell\/X.env.kindOf y.1=some .free) (Ke:N.length=own+js.length)
  (L':∀(i j:Nat) (x:Str),js[i]? =some j->N[own+i]? =some x->X.N[j]? =some x/\(x,NameKind.free)∈scope.names/\(X.env.kindOf x=some .cell\/X.env.kindOf x=some .free)/\((relabel scope X.env).names.lookup x=some .cell\/(relabel scope X.env).names.lookup x=some .free))
  (hi:PI X tg aE wi) (hg:∀C s₀ H₀ ex,PG (X.comp scope C N s₀ H₀ ex fun _ _=>False) tg g) (ho:ft own g) (ht:∀C s₀ H₀ ex,fP (X.comp scope C N s₀ H₀ ex fun _ _=>False) K6 ti) (he:∀C s₀ H₀ ex,PE (X.comp scope C N s₀ H₀ ex fun _ _=>False) Lp te)
  (hsw:swapsWith (.ListComp Lp [⟨tg,aE,K6,0⟩] scope pos) (some (.Name y py)) MP.line X.env=pure true:=by rfl)
  (hs:∀x,foldedSetIterable aE X.env x=pure x:=by intro _;rfl):PS X (.Assign [.Name y py] (.ListComp Lp [⟨tg,aE,K6,0⟩] scope pos) MP) (ir (iF own js wi g ti te) (bu i)):=by
 intro J' s σ H D I h;rw[exec_Assign_Name_used _ _ _ _ hsw];refine A0 (wpAny_standAt (A0 ?_));show wpAny _ X.A (do let _<-comprehension (.ListComp Lp [⟨tg,aE,K6,0⟩] scope pos) scope X.env _ (newList []) false (eval aE X.env) (some (assign (.Name y py) X.env))) _ _ s;refine A0 (Bm (qZ hc KD KM K7 KZ Ke L' hi hg ho ht he I h (use:=some (assign (.Name y py) X.env)) (RQ:=fun _ s'=>SP X J' D .next s') (fun acc C H3 s4 m I5 hn c1 c2 c3 c4 c5 c6 q=> ?_) hs) (fun _ s' hq=>A3 (A3 hq)) fun _ _ e=>e);show wpAny _ X.A (assign (.Name y py) X.env (.ref acc)) _ _ _;obtain⟨o,es,ep,KJ,hd,hr⟩:=hn;have I6:Inv X (J'++[(C,o)]) σ H3 s4:=I5.pins_of fun p hp=>by
  rcases BI.mp hp with z|z
  .exact I5.pin p (Al _ z)
  .rw [AY.mp z];exact⟨KJ,c1,c2,c3,fun v z=>by rw[hd] at z;cases z⟩
 refine wpAny_assign_Name (jp I6 hN Lq hy (v:= .ref acc) rfl (fun s' I7=> ?_) hf);have hp:=I7.pin (C,o) (Al _ (Al _ (by simp)));refine⟨m,⟨o,es,ep,hp.1,hd,hr⟩,fun h' sb=>⟨_,H3, ?_,q⟩⟩;exact I7.unpinned.turned (t':=s'.toks) (it:=C) (fun b o hb e=>(sb.2 b hb).trans e) c1 c2 (.inr c4) c5 c6
def jG (XN:O4 Str) (sc scope:Scope) (own:Nat) (js:O4 Nat) (N:O4 Str):Bool:=
 (scope.names.all fun y=>decide (y.2≠ .cell)&&(decide (y.2≠ .local)||decide (scope.names.lookup y.1=some .local))&&(decide (y.2≠ .free)||decide (sc.names.lookup y.1=some .cell)||decide (sc.names.lookup y.1=some .free)))&&
  decide (scope.kind= .function)&&decide (N.length=own+js.length)&&
  (List.range js.length).all fun i=>match js[i]?,N[own+i]? with
   |some j,some x=>decide (XN[j]? =some x)&&decide (scope.names.lookup x=some .free)&&(decide (sc.names.lookup x=some .cell)||decide (sc.names.lookup x=some .free))
   |_,_=>false
theorem lC {env:Env}:∀{names:O4 (Str×NameKind)}{x:Str},names.lookup x=some .free->
  (names.map fun(n,k)=>if(k==NameKind.free&&env.scope.kind== .function&&env.kindOf n==some .cell) then(n,NameKind.cell) else(n,k)).lookup x=some .cell\/
  (names.map fun(n,k)=>if(k==NameKind.free&&env.scope.kind== .function&&env.kindOf n==some .cell) then(n,NameKind.cell) else(n,k)).lookup x=some .free
 |[],_,h=>by simp at h
 |(n,k)::r,x,h=>by
  have ih:= @lC env r x;rw[AK,CM];rw[CM] at h;by_cases hc:(k==NameKind.free&&env.scope.kind== .function&&env.kindOf n==some .cell)=true
  .rw [A8 hc];dsimp only;cases hx:x==n with
   |true=>exact .inl rfl
   |false=>
    rw[hx] at h;exact ih h
  .rw [A6 hc];dsimp only;cases hx:x==n with
   |true=>
    rw[hx] at h;exact .inr h
   |false=>
    rw[hx] at h;exact ih h
structure CompOk (XN:O4 Str) (sc scope:Scope) (own:Nat) (js:O4 Nat) (N:O4 Str):Prop where
 cell:∀y∈scope.names,y.2≠ .cell
 names:∀y∈scope.names,y.2= .local->scope.names.lookup y.1=some .local
 free:∀y∈scope.names,y.2= .free->sc.names.lookup y.1=some .cell\/sc.names.lookup y.1=some .free
 kind:scope.kind= .function
 len:N.length=own+js.length
 cap:∀(i j:Nat) (x:Str),js[i]? =some j->N[own+i]? =some x->XN[j]? =some x/\scope.names.lookup x=some .free/\(sc.names.lookup x=some .cell\/sc.names.lookup x=some .free)
theorem rc {XN:O4 Str}{sc:Scope}(h:jG XN sc scope own js N=true):CompOk XN sc scope own js N:=by
 unfold jG at h;rw[A9,A9,A9] at h;obtain⟨⟨⟨h1,h2⟩,h3⟩,h4⟩:=h;rw[AS] at h1 h4;refine⟨fun y hy=> ?_,fun y hy e=> ?_,fun y hy e=> ?_,B6 h2,B6 h3,fun i j x a b=> ?_⟩
 .have:=h1 y hy;rw[A9,A9] at this;exact B6 this.1.1
 .have:=h1 y hy;rw[A9,A9,CS] at this;rcases this.1.2 with z|z
  .exact absurd e (B6 z)
  .exact B6 z
 .have:=h1 y hy;rw[A9,A9,CS,CS,CS] at this;rcases this.2 with(z|z)|z
  .exact absurd e (B6 z)
  .exact .inl (B6 z)
  .exact .inr (B6 z)
 .have hi:i<js.length:=(AD.mp a).1;have:=h4 i (AW.mpr hi);rw[a,b] at this;dsimp only at this;rw[A9,A9,CS] at this;exact⟨B6 this.1.1,B6 this.1.2,this.2.imp B6 B6⟩
section
variable {X:Cx}{XN:O4 Str}{sc scope:Scope}{Lp tg aE:O5}{K6:O4 O5}{pos:Pos}{N:O4 Str}{own:Nat}{js:O4 Nat}{wi:TI}{g:TG}{ti:TT}{te:TE}
theorem cq (hc:X.calm=true) (ok:jG XN sc scope own js N=true) (hsc:X.env.scope=sc) (hXN:X.N=XN) (hi:PI X tg aE wi) (hg:∀C s₀ H₀ ex,PG (X.comp scope C N s₀ H₀ ex fun _ _=>False) tg g) (ho:ft own g)
  (ht:∀C s₀ H₀ ex,fP (X.comp scope C N s₀ H₀ ex fun _ _=>False) K6 ti) (he:∀C s₀ H₀ ex,PE (X.comp scope C N s₀ H₀ ex fun _ _=>False) Lp te)
  (hs:∀x,foldedSetIterable aE X.env x=pure x:=by intro _;rfl):PE X (.ListComp Lp [⟨tg,aE,K6,0⟩] scope pos) (iF own js wi g ti te):=by
 obtain⟨h1,h2,h3,h4,h5,h6⟩:=rc ok;subst hsc hXN;refine yZ hc h1 h4 h2 h3 h5 (fun i j x a b=> ?_) hi hg ho ht he hs;obtain⟨z1,z2,z3⟩:=h6 i j x a b;exact⟨z1,C2 z2,z3,lC z2⟩
theorem iG {y:Str}(hN:X.N.Nodup) (Lq:X.N[i]? =some y) (hy:Loc X.env.scope y) (hf:X.fn y=true\/X.env.scope.names.lookup y=some .local) (hc:X.calm=true) (ok:jG XN sc scope own js N=true) (hsc:X.env.scope=sc) (hXN:X.N=XN) (hi:PI X tg aE wi)
  (hg:∀C s₀ H₀ ex,PG (X.comp scope C N s₀ H₀ ex fun _ _=>False) tg g) (ho:ft own g)
  (ht:∀C s₀ H₀ ex,fP (X.comp scope C N s₀ H₀ ex fun _ _=>False) K6 ti) (he:∀C s₀ H₀ ex,PE (X.comp scope C N s₀ H₀ ex fun _ _=>False) Lp te)
  (hsw:swapsWith (.ListComp Lp [⟨tg,aE,K6,0⟩] scope pos) (some (.Name y py)) MP.line X.env=pure true:=by rfl)
  (hs:∀x,foldedSetIterable aE X.env x=pure x:=by intro _;rfl):PS X (.Assign [.Name y py] (.ListComp Lp [⟨tg,aE,K6,0⟩] scope pos) MP) (ir (iF own js wi g ti te) (bu i)):=by
 obtain⟨h1,h2,h3,h4,h5,h6⟩:=rc ok;subst hsc hXN;refine y3 hN Lq hy hf hc h1 h4 h2 h3 h5 (fun i j x a b=> ?_) hi hg ho ht he hsw hs;obtain⟨z1,z2,z3⟩:=h6 i j x a b;exact⟨z1,C2 z2,z3,lC z2⟩
end
theorem fR {lo:Int}{ti:TT}{σ:St}{H1:Hp}{Q:VK} (Pv:Nat->Hp->Prop) (h0:Pv 0 (upd H1 acc (.lst [])))
  (hs:∀i H2,i<n->Pv i H2->g (.int (lo+i)) (dj own js σ) H2 fun σ4 H4=>ti σ4 H4 fun b H5=>if b=true then te σ4 H5 fun y H6=>rAppend (.ref acc) [y] H6 fun _ H7=>Pv (i+1) H7 else Pv (i+1) H5) (hd:∀H2,Pv n H2->Q (.ref acc) H2)
  (mono:∀σ H (R R':St->Hp->Prop) x,(∀σ' H',R σ' H'->R' σ' H')->g x σ H R->g x σ H R') (K8:∀σ H (R R':Bool->Hp->Prop),(∀b H',R b H'->R' b H')->ti σ H R->ti σ H R') (K9:∀σ H (R R':VK),(∀v H',R v H'->R' v H')->te σ H R->te σ H R'):
  iE (Itr lo n) own js g ti te σ H1 acc Q:=by
 refine⟨fun i m H2=>m=n-i/\i<=n/\Pv i H2,⟨n,by simp,AQ _,h0⟩, ?_⟩;rintro i m H2 ⟨rfl,hi,p⟩;by_cases Kf:i<n
 .refine .inr ⟨Kf,fun x H3 y=> ?_⟩;obtain⟨e1,e2⟩:=y;subst e1 e2;refine mono _ _ _ _ _ (fun σ4 H4 q=>K8 _ _ _ _ (fun b H5 q=> ?_) q) (hs i _ Kf p);cases b with
  |true=>
   refine K9 _ _ _ _ (fun v H6 q=> ?_) q;obtain⟨l,xs,y,a1,a2,a3,a4,a5⟩:=q;exact⟨l,xs,y,a1,a2,a3,a4,n-(i+1),by lia,rfl,Kf,a5⟩
  |false=>exact⟨n-(i+1),by lia,rfl,Kf,q⟩
 .have e:i=n:=by lia
  subst e;exact .inl ⟨AB _,hd H2 p⟩
theorem dk {xs:O4 V}{ti:TT}{σ:St}{H1:Hp}{Q:VK} (Pv:Nat->Hp->Prop) (h0:Pv 0 (upd H1 acc (.lst []))) (hl:∀i H2,i<=xs.length->Pv i H2->SqL K H2 a xs)
  (hs:∀i x H2,xs[i]? =some x->Pv i H2->g x (dj own js σ) H2 fun σ4 H4=>ti σ4 H4 fun b H5=>if b=true then te σ4 H5 fun y H6=>rAppend (.ref acc) [y] H6 fun _ H7=>Pv (i+1) H7 else Pv (i+1) H5) (hd:∀H2,Pv xs.length H2->Q (.ref acc) H2)
  (mono:∀σ H (R R':St->Hp->Prop) x,(∀σ' H',R σ' H'->R' σ' H')->g x σ H R->g x σ H R') (K8:∀σ H (R R':Bool->Hp->Prop),(∀b H',R b H'->R' b H')->ti σ H R->ti σ H R') (K9:∀σ H (R R':VK),(∀v H',R v H'->R' v H')->te σ H R->te σ H R'):
  iE (Itl K a) own js g ti te σ H1 acc Q:=by
 refine⟨fun i m H2=>m=xs.length-i/\i<=xs.length/\Pv i H2,⟨xs.length,by simp,AQ _,h0⟩, ?_⟩;rintro i m H2 ⟨rfl,hi,p⟩;have q:=hl i H2 hi p;by_cases Kf:i<xs.length
 .refine .inr ⟨⟨xs,xs[i],q,by simp[Kf]⟩,fun x H3 y=> ?_⟩;obtain⟨e1,y⟩:=y;subst e1;refine mono _ _ _ _ _ (fun σ4 H4 q=>K8 _ _ _ _ (fun b H5 q=> ?_) q) (hs i x _ (y xs q) p);cases b with
  |true=>
   refine K9 _ _ _ _ (fun v H6 q=> ?_) q;obtain⟨l,xs,y,a1,a2,a3,a4,a5⟩:=q;exact⟨l,xs,y,a1,a2,a3,a4,_,by lia,rfl,Kf,a5⟩
  |false=>exact⟨_,by lia,rfl,Kf,q⟩
 .have e:i=xs.length:=by lia
  subst e;exact .inl ⟨⟨xs,q,AB _⟩,hd H2 p⟩
def ci :∀(σ:St) (H:Hp) (R R':St->Hp->Prop) (x:V),(∀σ' H',R σ' H'->R' σ' H')->bu i x σ H R->bu i x σ H R':=fun _ _ _ _ _ k h=>k _ _ h
theorem y4 {A B:Hp->Prop}{σ:St}(h:A H):iC σ H fun b H5=>if b=true then A H5 else B H5:=by
 show if true=true then A H else B H
 rw[A8 rfl];exact h
theorem dm {A B:St->Hp->Prop}{x:V}{σ:St}(h:A (σ.set i (some x)) H):bu i x σ H fun σ4 H4=>iC σ4 H4 fun b H5=>if b=true then A σ4 H5 else B σ4 H5:=by
 show if true=true then A (σ.set i (some x)) H else B (σ.set i (some x)) H
 rw[A8 rfl];exact h
theorem rg (h:i<n):ixN n (i:Int)=some i:=by
 unfold ixN;rw[A8 (by lia),A8 (by lia),An]
def cr:∀(σ:St) (H:Hp) (R R':Bool->Hp->Prop),(∀b H',R b H'->R' b H')->iC σ H R->iC σ H R':=fun _ _ _ _ k h=>k _ _ h
section
variable {X:Cx}{K:W.Frag}
def y6 (h:X.K=K):IxR X (rIxL K):=h▸cC
end
inductive EqR (K:W.Frag) (H:Hp):Nat->V->V->Bool->Prop where
 |int (d:Nat) (i j:Int):EqR K H d (.int i) (.int j) (decide (i=j))
 |lists {d:Nat}{a b:Addr}{xs ys:List V} (es:Nat->Bool) (h1:SqL K H a xs) (h2:SqL K H b ys) (hl:xs.length=ys.length) (he:∀(j:Nat) x y,xs[j]? =some x->ys[j]? =some y->EqR K H d x y (es j)):EqR K H (d+1) (.ref a) (.ref b) ((List.range xs.length).all es)
 |lens {d:Nat}{a b:Addr}{xs ys:List V} (h1:SqL K H a xs) (h2:SqL K H b ys) (hl:xs.length≠ys.length):EqR K H (d+1) (.ref a) (.ref b) false
 |tuples {d:Nat}{a b:Addr}{xs ys:List V} (es:Nat->Bool) (h1:SqT K H a xs) (h2:SqT K H b ys) (he:∀(j:Nat) x y,xs[j]? =some x->ys[j]? =some y->EqR K H d x y (es j)):EqR K H (d+1) (.ref a) (.ref b) ((List.range (min xs.length ys.length)).all es&&xs.length==ys.length)
section
variable {X:Cx}{J':O4 (OZ×Obj)}{σ:St}{H:Hp}{s:OY}
theorem EqR.same (I:Inv X J' σ H s) {x:V}(h:EqR X.K H d x y e):x=y->e=true:=by
 induction h with
 |int d i j=>intro q;cases q;simp
 |lists es h1 h2 hl he ih=>
  intro q;cases q;have z:=I.list_inj h1 h2;subst z;rw[AS];intro j hj;rw[AW] at hj;have hx:=A2 hj;exact ih j _ _ hx hx rfl
 |lens h1 h2 hl=>
  intro q;cases q;exact absurd (BN List.length (I.list_inj h1 h2)) hl
 | @tuples d a b xs ys es h1 h2 he ih=>
  intro q;cases q;have z:=I.tuple_inj h1 h2;subst z;rw[A9];refine⟨?_,by simp⟩;rw[AS];intro j hj;rw[AW,Nat.min_self] at hj;have hx:=A2 hj;exact ih j _ _ hx hx rfl
def b9 (A:O3):A.in1.units=A.units+1:=rfl
theorem EqR.bU (I:Inv X J' σ H s) {x:V}(h:EqR X.K H d x y e):∀{A:O3}{u v:MR},A.units+d<cLine->av x u->av y v->SeqAt.RcAt A s u v e/\SeqAt.RcNeAt A s u v (!e)/\SeqAt.EqAt A s u v e:=by
 induction h with
 |int d i j=>
  intro A u v hu ru rv;obtain⟨t,rfl⟩:=ru;obtain⟨t',rfl⟩:=rv;have e:decide (i=j)=(i==j):=by rw[Bool.beq_eq_decide_eq]
  rw[e];exact⟨SeqAt.RcAt.int_int i t j t',SeqAt.RcNeAt.int_int i t j t',SeqAt.EqAt.int_int i t j t'⟩
 | @lists d a b xs ys es h1 h2 hl he ih=>
  intro A u v hu ru rv;obtain rfl:u=Value.ref a:=ru;obtain rfl:v=Value.ref b:=rv;obtain⟨is,r1,p1,z1⟩:=I.list h1;obtain⟨js,r2,p2,z2⟩:=I.list h2;have l1:=r1.length;have l2:=r2.length;have ln:xs.length=is.toArray.size:=by simpa using l1
  have sz:is.toArray.size=js.toArray.size:=by simp only[AE];lia
  have it:∀j (q1:j<is.toArray.size) (q2:j<js.toArray.size),SeqAt.EqAt A.in1 s is.toArray[j] js.toArray[j] (es j):=fun j q1 q2=>by
   simp only[AE] at q1 q2;have hx:xs[j]? =some xs[j]:=A2 (by lia);have hy:ys[j]? =some ys[j]:=A2 (by lia);obtain⟨u1,e1,ru1⟩:=r1.get hx;obtain⟨u2,e2,ru2⟩:=r2.get hy;have g1:is.toArray[j]=u1:=by
    rw[A2 q1] at e1;simpa using Option.some.inj e1
   have g2:js.toArray[j]=u2:=by
    rw[A2 q2] at e2;simpa using Option.some.inj e2
   rw[g1,g2];exact(ih j _ _ hx hy (by rw[b9];lia) ru1 ru2).2.2
  rw[ln];have R:=SeqAt.RcAt.lists (A:=A) p1.isList p2.isList sz (by lia) it;refine⟨R,SeqAt.RcNeAt.lists p1.isList p2.isList sz (by lia) it, ?_⟩;by_cases q:a=b
  .subst q;have:=(EqR.lists es h1 h2 hl he).same I rfl;rw[ln] at this;rw[this];exact SeqAt.EqAt.same _
  .exact SeqAt.EqAt.of_refs q R
 | @lens d a b xs ys h1 h2 hl=>
  intro A u v hu ru rv;obtain rfl:u=Value.ref a:=ru;obtain rfl:v=Value.ref b:=rv;obtain⟨is,r1,p1,z1⟩:=I.list h1;obtain⟨js,r2,p2,z2⟩:=I.list h2;have l1:=r1.length;have l2:=r2.length;have sz:(is.toArray.size !=js.toArray.size)=true:=by
   simp only[AE,bne_iff_ne,ne_eq];lia
  have R:=SeqAt.RcAt.lists_lengths (A:=A) p1.isList p2.isList sz (by lia);refine⟨R,SeqAt.RcNeAt.lists_lengths p1.isList p2.isList sz (by lia), ?_⟩;by_cases q:a=b
  .subst q;exact absurd (BN List.length (I.list_inj h1 h2)) hl
  .exact SeqAt.EqAt.of_refs q R
 | @tuples d a b xs ys es h1 h2 he ih=>
  intro A u v hu ru rv;obtain rfl:u=Value.ref a:=ru;obtain rfl:v=Value.ref b:=rv;obtain⟨is,r1,p1,z1⟩:=I.tuple h1;obtain⟨js,r2,p2,z2⟩:=I.tuple h2;have l1:=r1.length;have l2:=r2.length;have ln:xs.length=is.toArray.size:=by simpa using l1
  have ln2:ys.length=js.toArray.size:=by simpa using l2
  have it:∀j (q1:j<is.toArray.size) (q2:j<js.toArray.size),SeqAt.EqAt A.in1 s is.toArray[j] js.toArray[j] (es j):=fun j q1 q2=>by
   simp only[AE] at q1 q2;have hx:xs[j]? =some xs[j]:=A2 (by lia);have hy:ys[j]? =some ys[j]:=A2 (by lia);obtain⟨u1,e1,ru1⟩:=r1.get hx;obtain⟨u2,e2,ru2⟩:=r2.get hy;have g1:is.toArray[j]=u1:=by
    rw[A2 q1] at e1;simpa using Option.some.inj e1
   have g2:js.toArray[j]=u2:=by
    rw[A2 q2] at e2;simpa using Option.some.inj e2
   rw[g1,g2];exact(ih j _ _ hx hy (by rw[b9];lia) ru1 ru2).2.2
  rw[ln,ln2];have R:=SeqAt.RcAt.tuples (A:=A) (show s.heap.IsTuple a is.toArray from p1) (show s.heap.IsTuple b js.toArray from p2) (by lia) it;refine⟨R,SeqAt.RcNeAt.tuples (show s.heap.IsTuple a is.toArray from p1) (show s.heap.IsTuple b js.toArray from p2) (by lia) it, ?_⟩;by_cases q:a=b
  .subst q;have:=(EqR.tuples es h1 h2 he).same I rfl;rw[ln,ln2] at this;rw[this];exact SeqAt.EqAt.same _
  .exact SeqAt.EqAt.of_refs q R
theorem gF (hc:X.calm=true):bL X (.builtin "sum") (fun xs H Q=>∃(p:OZ) (ns:O4 Int),xs=[.ref p]/\SqL X.K H p (ns.map V.int)/\Q (.int ns.sum) H):=by
 intro J' s σ H xs us Q I r h;obtain⟨p,ns,rfl,hq,q⟩:=h;obtain⟨u,rfl,rx⟩:=cB r;cases rx;obtain⟨Kd,r',pl,hz⟩:=I.list hq;have hi:IntsAre Kd ns:=jA r';obtain⟨ys,e⟩:=hi.allInts.items;have hl:=pl.isList;rw[e] at hl;refine sum_intListG (I.ok.hd hc) hl fun h' tk t' hk=>⟨.int ns.sum,H,I.kept hk,⟨t', ?_⟩,q⟩;have n1:=hi.numsOf;rw[show Kd=Kd.toArray.toList from rfl,e,nums_intItems] at n1;rw[preSum_eq,Ct (by simp),n1]
def CDB (_ j:Int):Prop:=j≠0/\j.natAbs<2^512
theorem y7:OpR X (binaryOp .FloorDiv) (rI CDB fun i j=> .int (i.fdiv j)):=opI fun i j _ _ _ _ _ hc q=>floordiv_int hc.1 q (.inl (PyProof.noPylong_of_log2 (by
 have h0:j.natAbs≠0:=by have:=hc.1;lia
 have:=(Nat.log2_lt h0).mpr hc.2;lia)))
end
def Ite (K:W.Frag) (a:OZ):It:=
 ⟨fun i H=>∃xs x,SqL K H a xs/\xs[i]? =some x,fun i H v H'=>∃x p,(∀xs,SqL K H a xs->xs[i]? =some x)/\v= .ref p/\H p=none/\H'=upd H p (.tup [.int i,x]),fun i H=>∃xs,SqL K H a xs/\xs.length<=i⟩
theorem y8 {K1:O4 O5}(a e it:OZ) (Kt:e≠it):
  Turn P w K (.Tuple K1 k pos) (Ite K a) [e,it] e (fun i h=>(∃LM,IsEnum h e it (i:Nat) LM)/\h.IsListIter it a i) where
 mem:=by simp
 obj:=fun i h st b hb=>by
  obtain⟨⟨LM,h1⟩,o,h2,h3,h4⟩:=st;rcases AJ.mp hb with z|z
  .subst z;exact⟨_,h1,fun v y=>by cases y⟩
  .rw [AY.mp z];exact⟨o,h2,fun v y=>by rw[h4] at y;cases y⟩
 keep:=fun i h h' st kk=>⟨st.1.imp fun LM z=>kk e (by simp) _ z,st.2.at fun o z=>kk it (by simp) o z⟩
 item:=by
  intro X hP hw hK hc i J' s σ H E I hf st hg;subst hP hw hK;obtain⟨xs,x,hq,hx⟩:=hg;obtain⟨Kd,rv,p,hz⟩:=I.list hq;obtain⟨u,hu,ru⟩:=rv.get hx;obtain⟨⟨LM,he⟩,Kj⟩:=st;have nf:H s.heap.objs.size=none:=I.hok.fresh (AB _);have ltE:e<s.heap.objs.size:=AM he;refine wpAny_pyNext_enum_item he Kj p.isList (x:=u) (by simpa using hu) Kt fun h' ho Ma hT hsz hk=>⟨.ref s.heap.objs.size,rfl, ?_⟩;refine wpAny_letOwnedTupleGo_enum ho fun h2 Nw sb=> ?_;have k2:∀b o,b≠e->b≠it->s.heap.get? b=some o->h2.get? b=some o:=fun b o n1 n2 z=>(sb.2 b n1).trans (hk b o n1 n2 z);have Ol:h2.get? s.heap.objs.size=some {cls:= .type "tuple",data:= .seq #[.int i s.toks,u]}:=(sb.2 _ (Be ltE)).trans hT;have LL:∀b,b∉[e,it]->b≠e/\b≠it:=fun b z=>⟨fun y=>z (by simp[y]),fun y=>z (by simp[y])⟩;refine⟨.ref s.heap.objs.size,upd H s.heap.objs.size (.tup [.int i,x]), ?_,rfl,⟨x,_,fun ys hy=>by rw[I.list_inj hy hq];exact hx,rfl,nf,rfl⟩,⟨⟨u,by simpa using Nw⟩,Ma.at fun o z=>(sb.2 it Kt.symm).trans z⟩,fun b hb=> ?_⟩
  .refine I.step (s:=s) (h':=h2) (g':=s.gens) (d':=s.drawn) (t':=s.toks+1) (ch:=[e,it]) (fun b hb=> ?_) (fun b o _ _ c z _=>k2 b o (LL b c).1 (LL b c).2 z) (fun b o _ _ c z _=>⟨o.slots,k2 b o (LL b c).1 (LL b c).2 z⟩)
    (fun b o c z n=> ?_) (fun b o c z=>⟨o,k2 b o (LL b c).1 (LL b c).2 z⟩) (fun b ys z=> ?_) (fun b o v z=> ?_) (fun b ps z=>⟨#[], ?_⟩) (fun m hm=> ?_) (fun b v z=> ?_) I.bare
   .obtain⟨a1,a2,a3,a4,a5,a6⟩:=hf b hb;exact⟨a4,a2,a5,a6⟩
   .rw [ax (AT (AM z))];exact n
   .rw [ax (bG z nf)];exact z
   .rw [ax (bG z nf)];exact z
   .rw [ax (bG z nf),z];simp
   .obtain⟨o,es,ep,KJ,r⟩:=hm;exact⟨o,es,ep,k2 _ o (fun y=>(hf e (by simp)).2.1 y.symm) (fun y=>(hf it (by simp)).2.1 y.symm) KJ,r⟩
   .by_cases hb:b=s.heap.objs.size
    .subst hb;rw[ak] at z;cases z;exact⟨by show 2<=sizeLine;decide,[.int i s.toks,u], .cons ⟨_,rfl⟩ (.cons ru .nil),⟨_,Ol,rfl,_,rfl⟩⟩
    .rw [ax hb] at z;refine(I.hok b v z).stay (fun c o hc y=>k2 c o ?_ ?_ y) (fun c y=> ?_) fun c ys y=> ?_
     .rcases hc with q|q
      .rw [q];exact fun y=>by rw[y,(hf e (by simp)).1] at z;cases z
      .exact fun y=>by rw[y,(hf e (by simp)).1] at q;cases q
     .rcases hc with q|q
      .rw [q];exact fun y=>by rw[y,(hf it (by simp)).1] at z;cases z
      .exact fun y=>by rw[y,(hf it (by simp)).1] at q;cases q
     .rw [ax (bG y nf)];exact y
     .rw [ax (bG y nf)];exact y
  .obtain⟨o,z,_⟩:=(show∃o,s.heap.get? b=some o/\True from by
    rcases AJ.mp hb with q|q
    .rw [q];exact⟨_,he,trivial⟩
    .rw [AY.mp q];obtain⟨o,y,_⟩:=Kj;exact⟨o,y,trivial⟩)
   rw[ax (AT (AM z))];exact(hf b hb).1
 done:=by
  intro X hP hw hK hc i J' s σ H E I hf st hg;subst hP hw hK;obtain⟨xs,hq,hx⟩:=hg;obtain⟨Kd,rv,p,hz⟩:=I.list hq;obtain⟨⟨LM,he⟩,Kj⟩:=st;have hl:=rv.length;obtain⟨f0,f1,f2,f3,f4,f5⟩:=hf it (by simp);exact wpAny_pyNext_enum_end (I.ok.hd hc) he Kj p.isList (by simp;lia) fun h' eb=>⟨rfl,I.turned (t':=s.toks) (fun b o hb z=>eb b o hb z) f0 f1 f3 f4 f5⟩
 self:=fun _ _ _ _ _ st h=>let ⟨⟨_,z⟩,_⟩:=st;wpAny_pyIter_enum z h
section
variable {X:Cx}{K1:O4 O5}{k:Nat}{Ln p pos:Pos}{e:O5}{te:TE}
def y9 (K:W.Frag) (tl:TE):TI:=fun σ H R=>tl σ H fun x H1=>∃a,x= .ref a/\(∃xs,SqL K H1 a xs)/\R (Ite K a) H1
theorem jH (hg:Gl X "enumerate") (hm:X.mg "enumerate"=none) (hl:PE X e te) (he:starEach [e] X.env=[(false,eval e X.env)]:=by rfl):PI X (.Tuple K1 k Ln) (.Call (.Name "enumerate" p) [e] [] pos) (y9 X.K te):=by
 intro J' s σ H R I h;refine Bn (dg I hg hm boot_enumerate ?_);refine BH (thn ((ab hl af he) _ J' s σ H (fun vs H1=>match vs with|[x]=>(∃a,x= .ref a/\(∃xs,SqL X.K H1 a xs)/\R (Ite X.K a) H1)|_=>False) I h) fun us s1 ⟨vs,H1,I1,r1,q1⟩=> ?_) he (by rfl)
 match vs,q1,r1 with
 |[x],q1,r1=>
 obtain⟨a,rfl,⟨xs,hq⟩,q⟩:=q1;obtain⟨u,rfl,ru⟩:=cB r1;obtain rfl:u=Value.ref a:=ru;obtain⟨Kd,rv,pl,hz⟩:=I1.list hq;refine call_enumerate_list pl.isList fun h' hen Kj hsz hk=> ?_;refine wpAny_pyIter_enum hen ?_;refine⟨_,[_,_],_,_,H1,rfl,I1.kept (t':=s1.toks) hk,y8 a _ _ (Be (BW _)),⟨⟨_,by simpa using hen⟩,Kj⟩,fun b hb=> ?_,q⟩;have fr:∀b,s1.heap.objs.size<=b->cm X J' H1 b:=fun b z=>I1.fpOk z (I1.hok.fresh z);rcases AJ.mp hb with z|z
 .rw [z];exact fr _ (DB _)
 .rw [AY.mp z];exact fr _ (AB _)
end
theorem lD {xs:O4 V}{tb:TS}{D:Ends}{σ:St}(Pv:Nat->St->Hp->Prop) (h0:Pv 0 σ H) (hl:∀i σ H,i<=xs.length->Pv i σ H->SqL K H a xs)
  (hs:∀i x σ H p,xs[i]? =some x->Pv i σ H->H p=none->g (.ref p) σ (upd H p (.tup [.int i,x])) fun σ2 H2=>tb (eLp D (Pv (i+1))) σ2 H2) (hd:∀σ H,Pv xs.length σ H->D.nx σ H):
  ∃Wq:Nat->Nat->St->Hp->Prop,(∃m,Wq 0 m σ H)/\∀i m σ H,Wq i m σ H->
   ((Ite K a).stop i H/\D.nx σ H)\/((Ite K a).go i H/\∃N:St->Hp->Prop,(∀σ' H',N σ' H'->∃m',m'<m/\Wq (i+1) m' σ' H')/\∀x H',(Ite K a).yld i H x H'->g x σ H' fun σ2 H2=>tb (eLp D (N)) σ2 H2):=by
 refine⟨fun i m σ H=>m=xs.length-i/\i<=xs.length/\Pv i σ H,⟨xs.length,by simp,AQ _,h0⟩, ?_⟩;rintro i m σ H ⟨rfl,hi,p⟩;have q:=hl i σ H hi p;by_cases Kf:i<xs.length
 .refine .inr ⟨⟨xs,xs[i],q,by simp[Kf]⟩,Pv (i+1),fun σ' H' p'=>⟨xs.length-(i+1),by lia,rfl,Kf,p'⟩,fun x H' y=> ?_⟩;obtain⟨z,pp,e1,e2,e3,e4⟩:=y;subst e2 e4;exact hs i z σ H pp (e1 xs q) p e3
 .have e:i=xs.length:=by lia
  subst e;exact .inl ⟨⟨xs,q,AB _⟩,hd σ H p⟩
inductive rGetN (K:W.Frag) (o:V) (i:V) (H:Hp) (Q:VK):Prop
 |mk (p:Addr) (xs:List V) (j:Nat) (k:Int) (v:V):o= .ref p->i= .int k->k=j->SqL K H p xs->xs[j]? =some v->Q v H->rGetN K o i H Q
theorem rh :qg X (rGetN X.K):=by
 intro J' s σ H o i ov iv Q I r1 r2 h;obtain⟨p,xs,j,k,v,rfl,rfl,e,hq,hx,q⟩:=h;cases r1;obtain⟨t,rfl⟩:=r2;obtain⟨Kd,r,pl,hz⟩:=I.list hq;obtain⟨w,ew,LB⟩:=r.get hx;have hl:=r.length;have hn:=fL;have hj:j<xs.length:=(AD.mp hx).1;exact wpAny_getItem_list pl.isList (by lia) (by lia) (by rw[e,An];simpa using ew) ⟨v,H,I,LB,q⟩
section
variable {X:Cx}{st:O8}{t:TS}
def zc (t:TS):TS:=fun D σ H=>∃I:St->Hp->Prop,t (eTo D (I)) σ H/\∀σ' H',I σ' H'->D.nx σ' H'
theorem lE (h:PS X st t):PS X st (zc t):=fun J' s σ H D Iv ⟨J,h1,h2⟩=>
 thn (h J' s σ H _ Iv h1) fun f s' hf=>by
  cases f with
  |next=>obtain⟨σ',H',a,b⟩:=hf;exact⟨σ',H',a,h2 _ _ b⟩
  |brk=>exact hf
  |cont=>exact hf
  |ret u=>exact hf
end
inductive D where
 |i (n:Int)|l (xs:List D)|t (xs:List D)
mutual
def Is (H:Hp):D->V->Prop
 | .i n,v=>v= .int n
 | .l xs,v=>∃a vs,v= .ref a/\H a=some (.lst vs)/\Iss H xs vs
 | .t xs,v=>∃a vs,v= .ref a/\H a=some (.tup vs)/\Iss H xs vs
def Iss (H:Hp):O4 D->O4 V->Prop
 |[],vs=>vs=[]
 |x::xs,vs=>∃u us,vs=u::us/\Is H x u/\Iss H xs us
end
theorem bv {H:Hp}{n:Int}:Is H (.i n) (.int n):=by unfold Is;rfl
theorem aD {H:Hp}{a:OZ}{xs:O4 D}{vs:O4 V} (h:H a=some (.lst vs)) (k:Iss H xs vs):Is H (.l xs) (.ref a):=by unfold Is;exact⟨a,vs,rfl,h,k⟩
theorem bw {H:Hp}{a:OZ}{xs:O4 D}{vs:O4 V} (h:H a=some (.tup vs)) (k:Iss H xs vs):Is H (.t xs) (.ref a):=by unfold Is;exact⟨a,vs,rfl,h,k⟩
theorem az {H:Hp}{n:Int}{v:V} (h:Is H (.i n) v):v= .int n:=by unfold Is at h;exact h
theorem aB {H:Hp}{xs:O4 D}{v:V} (h:Is H (.l xs) v):∃a vs,v= .ref a/\H a=some (.lst vs)/\Iss H xs vs:=by unfold Is at h;exact h
theorem bH {H:Hp}{xs:O4 D}{v:V} (h:Is H (.t xs) v):∃a vs,v= .ref a/\H a=some (.tup vs)/\Iss H xs vs:=by unfold Is at h;exact h
theorem ap {H:Hp}:Iss H [] []:=by unfold Iss;rfl
theorem am {H:Hp}{x:D}{xs:O4 D}{u:V}{us:O4 V} (h:Is H x u) (k:Iss H xs us):Iss H (x::xs) (u::us):=by unfold Iss;exact⟨u,us,rfl,h,k⟩
theorem aQ {H:Hp}{x:D}{xs:O4 D}{vs:O4 V} (h:Iss H (x::xs) vs):∃u us,vs=u::us/\Is H x u/\Iss H xs us:=by unfold Iss at h;exact h
theorem bp {H:Hp}{vs:O4 V} (h:Iss H [] vs):vs=[]:=by unfold Iss at h;exact h
mutual
theorem Is.mono {H H':Hp} (s:ae H H'):∀{d:D}{v:V},Is H d v->Is H' d v
 | .i _,_,h=>by rw[az h];exact bv
 | .l xs,_,h=>by
  obtain⟨a,vs,e,q,r⟩:=aB h;rw[e];exact aD (s _ _ q) (Iss.mono s r)
 | .t xs,_,h=>by
  obtain⟨a,vs,e,q,r⟩:=bH h;rw[e];exact bw (s _ _ q) (Iss.mono s r)
theorem Iss.mono {H H':Hp} (s:ae H H'):∀{xs:O4 D}{vs:O4 V},Iss H xs vs->Iss H' xs vs
 |[],_,h=>by rw[bp h];exact ap
 |x::xs,_,h=>by
  obtain⟨u,us,e,q,r⟩:=aQ h;rw[e];exact am (Is.mono s q) (Iss.mono s r)
end
theorem Iss.length {H:Hp}:∀{xs:O4 D}{vs:O4 V},Iss H xs vs->vs.length=xs.length
 |[],_,h=>by rw[bp h];rfl
 |x::xs,_,h=>by
  obtain⟨u,us,rfl,_,r⟩:=aQ h;rw[Ad,Ad,r.length]
theorem Iss.get {H:Hp}:∀{xs:O4 D}{vs:O4 V}{j:Nat}{x:D},Iss H xs vs->xs[j]? =some x->∃v,vs[j]? =some v/\Is H x v
 |[],_,_,_,_,e=>by simp at e
 |x::xs,_,0,_,h,e=>by
  obtain⟨u,us,rfl,q,_⟩:=aQ h;simp at e;subst e;exact⟨u,rfl,q⟩
 |x::xs,_,j+1,_,h,e=>by
  obtain⟨u,us,rfl,_,r⟩:=aQ h;obtain⟨v,e',k⟩:=r.get (j:=j) (by simpa using e);exact⟨v,by simpa using e',k⟩
theorem Iss.of_get {H:Hp}{xs:O4 D}{vs:O4 V}{j:Nat}{v:V} (h:Iss H xs vs) (e:vs[j]? =some v):∃x,xs[j]? =some x/\Is H x v:=by
 have hj:j<vs.length:=(AD.mp e).1;have hj':j<xs.length:=by rw[<-h.length];exact hj
 obtain⟨u,e1,k⟩:=h.get (A2 hj');rw[e] at e1;cases e1;exact⟨_,A2 hj',k⟩
theorem Iss.append {H:Hp}:∀{xs ys:O4 D}{vs ws:O4 V},Iss H xs vs->Iss H ys ws->Iss H (xs++ys) (vs++ws)
 |[],_,_,_,h,k=>by rw[bp h];exact k
 |x::xs,_,_,_,h,k=>by
  obtain⟨u,us,rfl,q,r⟩:=aQ h;exact am q (r.append k)
theorem Iss.take {H:Hp}:∀{xs:O4 D}{vs:O4 V} (n:Nat),Iss H xs vs->Iss H (xs.take n) (vs.take n)
 |[],_,n,h=>by rw[bp h];simp;exact ap
 |x::xs,_,0,h=>by simp;exact ap
 |x::xs,_,n+1,h=>by
  obtain⟨u,us,rfl,q,r⟩:=aQ h;exact am q (r.take n)
theorem Iss.drop {H:Hp}:∀{xs:O4 D}{vs:O4 V} (n:Nat),Iss H xs vs->Iss H (xs.drop n) (vs.drop n)
 |[],_,n,h=>by rw[bp h];simp;exact ap
 |x::xs,_,0,h=>h
 |x::xs,_,n+1,h=>by
  obtain⟨u,us,rfl,q,r⟩:=aQ h;exact r.drop n
theorem Iss.rep {H:Hp}{x:D}{v:V} (h:Is H x v):∀n:Nat,Iss H (List.replicate n x) (List.replicate n v)
 |0=>ap
 |n+1=>by rw[BP,BP];exact am h (Iss.rep h n)
mutual
def Kin:D->D->Prop
 | .i _, .i _=>True
 | .l xs, .l ys=>dn xs ys
 | .t xs, .t ys=>dn xs ys
 |_,_=>False
def dn:O4 D->O4 D->Prop
 |x::xs,y::ys=>Kin x y/\dn xs ys
 |_,_=>True
end
mutual
def eqD:D->D->Bool
 | .i a, .i b=>decide (a=b)
 | .l xs, .l ys=>cN xs ys
 | .t xs, .t ys=>cN xs ys
 |_,_=>false
def cN:O4 D->O4 D->Bool
 |[],[]=>true
 |x::xs,y::ys=>eqD x y&&cN xs ys
 |_,_=>false
end
mutual
def dep:D->Nat
 | .i _=>0
 | .l xs=>dD xs+1
 | .t xs=>dD xs+1
def dD:O4 D->Nat
 |[]=>0
 |x::xs=>max (dep x) (dD xs)
end
mutual
theorem rj:∀{a b:D},eqD a b=true↔a=b
 | .i a, .i b=>by simp[eqD]
 | .i _, .l _=>by simp[eqD]
 | .i _, .t _=>by simp[eqD]
 | .l _, .i _=>by simp[eqD]
 | .l xs, .l ys=>by simp[eqD,jI (xs:=xs) (ys:=ys)]
 | .l _, .t _=>by simp[eqD]
 | .t _, .i _=>by simp[eqD]
 | .t _, .l _=>by simp[eqD]
 | .t xs, .t ys=>by simp[eqD,jI (xs:=xs) (ys:=ys)]
theorem jI:∀{xs ys:O4 D},cN xs ys=true↔xs=ys
 |[],[]=>by simp[cN]
 |[],_::_=>by simp[cN]
 |_::_,[]=>by simp[cN]
 |x::xs,y::ys=>by simp[cN,rj (a:=x) (b:=y),jI (xs:=xs) (ys:=ys)]
end
theorem lF:∀{xs ys:O4 D},xs.length=ys.length->cN xs ys=(List.range xs.length).all fun j=>eqD (xs.getD j (.i 0)) (ys.getD j (.i 0))
 |[],[],_=>by simp[cN]
 |x::xs,y::ys,h=>by
  have ih:=lF (xs:=xs) (ys:=ys) (by simpa using h);rw[cN,ih,Ad,List.range_succ_eq_map];simp[List.all_map,Function.comp_def]
theorem rk {xs ys:O4 D} (h:xs.length≠ys.length):cN xs ys=false:=by
 cases e:cN xs ys with
 |false=>rfl
 |true=>exact absurd (BN List.length (jI.mp e)) h
mutual
theorem Is.eqr {K:W.Frag}{H:Hp}:∀{d e:D}{v w:V}{n:Nat},dep d<=n->Kin d e->Is H d v->Is H e w->EqR K H n v w (eqD d e)
 | .i a, .i b,_,_,n,_,_,h,k=>by
  rw[az h,az k,eqD];exact EqR.int n a b
 | .l xs, .l ys,_,_,0,hn,_,_,_=>absurd hn (by unfold dep;lia)
 | .l xs, .l ys,_,_,n+1,hn,hk,h,k=>by
  obtain⟨a,vs,rfl,ha,ra⟩:=aB h;obtain⟨b,ws,rfl,hb,rb⟩:=aB k;have NS:dD xs<=n:=by unfold dep at hn;lia
  have Mr:dn xs ys:=by unfold Kin at hk;exact hk
  have l1:=ra.length;have l2:=rb.length;rw[eqD];by_cases hl:xs.length=ys.length
  .rw [lF hl,<-l1];exact EqR.lists _ (SqL.of ha) (SqL.of hb) (by lia) fun j x y hx hy=>Iss.eqr NS Mr ra rb hx hy
  .rw [rk hl];exact EqR.lens (SqL.of ha) (SqL.of hb) (by lia)
 | .t xs, .t ys,_,_,0,hn,_,_,_=>absurd hn (by unfold dep;lia)
 | .t xs, .t ys,_,_,n+1,hn,hk,h,k=>by
  obtain⟨a,vs,rfl,ha,ra⟩:=bH h;obtain⟨b,ws,rfl,hb,rb⟩:=bH k;have NS:dD xs<=n:=by unfold dep at hn;lia
  have Mr:dn xs ys:=by unfold Kin at hk;exact hk
  have l1:=ra.length;have l2:=rb.length;rw[eqD];have q:=EqR.tuples (d:=n) (fun j=>eqD (xs.getD j (.i 0)) (ys.getD j (.i 0))) (SqT.of (K:=K) ha) (SqT.of (K:=K) hb) fun j x y hx hy=>Iss.eqr NS Mr ra rb hx hy;by_cases hl:xs.length=ys.length
  .rw [lF hl];rw[l1,l2,<-hl,Nat.min_self] at q;simpa using q
  .rw [rk hl];have z:(vs.length==ws.length)=false:=by rw[l1,l2];simpa using hl
   rw[z,C9] at q;exact q
 | .i _, .l _,_,_,_,_,hk,_,_=>by unfold Kin at hk;exact hk.elim
 | .i _, .t _,_,_,_,_,hk,_,_=>by unfold Kin at hk;exact hk.elim
 | .l _, .i _,_,_,_,_,hk,_,_=>by unfold Kin at hk;exact hk.elim
 | .l _, .t _,_,_,_,_,hk,_,_=>by unfold Kin at hk;exact hk.elim
 | .t _, .i _,_,_,_,_,hk,_,_=>by unfold Kin at hk;exact hk.elim
 | .t _, .l _,_,_,_,_,hk,_,_=>by unfold Kin at hk;exact hk.elim
theorem Iss.eqr {K:W.Frag}{H:Hp}:∀{xs ys:O4 D}{vs ws:O4 V}{n:Nat},dD xs<=n->dn xs ys->Iss H xs vs->Iss H ys ws->∀{j:Nat}{x y:V},vs[j]? =some x->ws[j]? =some y->
  EqR K H n x y (eqD (xs.getD j (.i 0)) (ys.getD j (.i 0)))
 |[],_,_,_,_,_,_,h,_,_,_,_,e,_=>by rw[bp h] at e;simp at e
 |_::_,[],_,_,_,_,_,_,k,_,_,_,_,e=>by rw[bp k] at e;simp at e
 |x::xs,y::ys,_,_,n,hn,hk,h,k,0,u,w,e1,e2=>by
  obtain⟨u',us,rfl,q,_⟩:=aQ h;obtain⟨w',ws,rfl,q',_⟩:=aQ k;simp at e1 e2;subst e1 e2;have Mr:Kin x y/\dn xs ys:=by unfold dn at hk;exact hk
  have hd:dep x<=n:=by unfold dD at hn;lia
  exact Is.eqr (d:=x) (e:=y) hd Mr.1 q q'
 |x::xs,y::ys,_,_,n,hn,hk,h,k,j+1,u,w,e1,e2=>by
  obtain⟨u',us,rfl,_,r⟩:=aQ h;obtain⟨w',ws,rfl,_,r'⟩:=aQ k;have Mr:Kin x y/\dn xs ys:=by unfold dn at hk;exact hk
  have hd:dD xs<=n:=by unfold dD at hn;lia
  have:=Iss.eqr (K:=K) hd Mr.2 r r' (j:=j) (by simpa using e1) (by simpa using e2);simpa using this
end
abbrev Pt:=Int×Int
def pt (p:Pt):D:= .t [.i p.1, .i p.2]
def pts (ps:O4 Pt):D:= .l (ps.map pt)
theorem zd {p q:Pt} (h:pt p=pt q):p=q:=by
 unfold pt at h;injection h with h;injection h with h1 h2;injection h2 with h2 _;injection h1 with h1;injection h2 with h2;exact Prod.ext h1 h2
theorem ze {p q:Pt}:eqD (pt p) (pt q)=decide (p=q):=by
 rw[DE,rj,decide_eq_true_iff];exact⟨zd,fun h=>by rw[h]⟩
theorem zf {p q:Pt}:Kin (pt p) (pt q):=by simp[pt,Kin,dn]
theorem zg {p:Pt}:dep (pt p)=1:=by simp[pt,dep,dD]
theorem zh {K:W.Frag}{H:Hp}{p q:Pt}{v w:V} (h:Is H (pt p) v) (k:Is H (pt q) w):EqR K H 1 v w (decide (p=q)):=by
 rw[<-ze];exact h.eqr (by rw[zg];lia) zf k
theorem jJ {H:Hp}{p:Pt}{v:V} (h:Is H (pt p) v):∃a,v= .ref a/\H a=some (.tup [.int p.1, .int p.2]):=by
 obtain⟨a,vs,e,q,r⟩:=bH h;obtain⟨u,us,rfl,h1,r⟩:=aQ r;obtain⟨u',us',rfl,h2,r⟩:=aQ r;rw[bp r,az h1,az h2] at q;exact⟨a,e,q⟩
def fS {H:Hp}{p:Pt}{a:OZ} (h:H a=some (.tup [.int p.1, .int p.2])):Is H (pt p) (.ref a):=bw h (am bv (am bv ap))
def iH {H:Hp}{ps:O4 Pt}{v:V} (h:Is H (pts ps) v):∃a vs,v= .ref a/\H a=some (.lst vs)/\Iss H (ps.map pt) vs:=aB h
def hid (H:Hp) (a:OZ):Hp:=fun b=>if b=a then none else H b
theorem dX {H:Hp}{a b:OZ} (h:b≠a):hid H a b=H b:=by unfold hid;rw[A6 h]
theorem zi {H:Hp}{a:OZ}:hid H a a=none:=by unfold hid;rw[A8 rfl]
theorem rm {H:Hp}{a:OZ}:ae (hid H a) H:=fun b o e=>by
 unfold hid at e;split at e
 .cases e
 .exact e
theorem dq {H H':Hp}{a:OZ} (s:ae H H'):ae (hid H a) (hid H' a):=fun b o e=>by
 unfold hid at e⊢;split at e
 .cases e
 .rename_i h;rw[A6 h];exact s b o e
theorem zj {H:Hp}{a:OZ}{o:HO}:hid (upd H a o) a=hid H a:=by
 funext b
 unfold hid;split
 .rfl
 .rename_i h;exact ax h
def cb (H:Hp) (a:OZ) (xs:O4 D):Prop:=∃vs,H a=some (.lst vs)/\Iss (hid H a) xs vs
def cb.start {H:Hp}{a:OZ}:cb (upd H a (.lst [])) a []:=⟨[],ak,ap⟩
theorem cb.mono {H H':Hp}{a:OZ}{xs:O4 D} (s:ae H H') (g:cb H a xs):cb H' a xs:=let ⟨vs,e,h⟩:=g;⟨vs,s _ _ e,h.mono (dq s)⟩
def cb.is {H:Hp}{a:OZ}{xs:O4 D} (g:cb H a xs):Is H (.l xs) (.ref a):=let ⟨_,e,h⟩:=g;aD e (h.mono rm)
theorem iI {H:Hp}{a:OZ}{xs:O4 D}{x:D}{vs:O4 V}{v:V} (h:Iss (hid H a) xs vs) (k:Is (hid H a) x v):cb (upd H a (.lst (vs++[v]))) a (xs++[x]):=
 ⟨_,ak,by rw[zj];exact h.append (am k ap)⟩
section
variable {X:Cx}{es:O4 O5}{t:TA}{pos:Pos}
def New (H:Hp) (o:HO) (Q:VK):Prop:=∀p H2,H p=none->ae H H2->H2 p=some o->Q (.ref p) H2
def New.at {H:Hp}{o:HO}{Q:VK} (q:New H o Q) {p:OZ} (np:H p=none):Q (.ref p) (upd H p o):=q p _ np (ae.new np) ak
def zm (t:TA):TE:=fun σ H Q=>t σ H fun xs H1=>xs.length<=sizeLine/\New H1 (.tup xs) Q
def zn (t:TA):TE:=fun σ H Q=>t σ H fun xs H1=>xs.length<=sizeLine/\New H1 (.lst xs) Q
theorem aZ {x1} (h:PA X es t):PE X (.Tuple es x1 pos) (zm t):=by
 intro J' s σ H Q I hq;refine wpAny_Tuple_spliced (thn (h pos J' s σ H _ I hq) fun us s1 ⟨xs,H1,I1,r,z,q⟩=>⟨by rw[<-r.length];exact z, ?_⟩);refine⟨.ref s1.heap.objs.size,upd H1 s1.heap.objs.size (.tup xs),I1.laid (t':=s1.toks) (fun b u e=>A4 _ e) (AB _) ?_,rfl,q.at (I1.hok.fresh (AB _))⟩;exact⟨z,us,r,⟨_,AI _ rfl,rfl,_,rfl⟩⟩
theorem aN (h:PA X es t):PE X (.List es pos) (zn t):=by
 intro J' s σ H Q I hq;refine wpAny_List_spliced (thn (h pos J' s σ H _ I hq) fun us s1 ⟨xs,H1,I1,r,z,q⟩=>⟨by rw[<-r.length];exact z, ?_⟩);refine⟨.ref s1.heap.objs.size,upd H1 s1.heap.objs.size (.lst xs),I1.laid (t':=s1.toks) (fun b u e=>A4 _ e) (AB _) ?_,rfl,q.at (I1.hok.fresh (AB _))⟩;exact⟨z,us,0,r,AI _ rfl⟩
def OpR.imp {f:MR->MR->Sem MR}{r r':R2} (h:OpR X f r) (k:∀x y H Q,r' x y H Q->r x y H Q):OpR X f r':=fun J' s σ H x y v u Q I rx ry q=>h J' s σ H x y v u Q I rx ry (k _ _ _ _ q)
def bL.imp {f:MR}{r r':O4 V->Hp->VK->Prop} (h:bL X f r) (k:∀xs H Q,r' xs H Q->r xs H Q):bL X f r':=fun J' s σ H xs us Q I rs q=>h J' s σ H xs us Q I rs (k _ _ _ q)
theorem dE:OpR X (binaryOp .Add) (fun x y H Q=>∃xs zs,Is H (.l xs) x/\Is H (.l zs) y/\xs.length+zs.length<=sizeLine/\∀p H2,H p=none->ae H H2->Is H2 (.l (xs++zs)) (.ref p)->Q (.ref p) H2):=
 jE.imp fun x y H Q ⟨xs,zs,hx,hz,hl,q⟩=>by
  obtain⟨a,vs,rfl,ha,ra⟩:=aB hx;obtain⟨b,ws,rfl,hb,rb⟩:=aB hz;exact⟨a,b,vs,ws,rfl,rfl,ha,hb,by rw[ra.length,rb.length];exact hl,fun p np=>q p _ np (ae.new np) (aD ak ((ra.append rb).mono (ae.new np)))⟩
theorem rn {α:Type}{x:α}:∀n:Nat,(List.replicate n [x]).flatten=List.replicate n x
 |0=>rfl
 |n+1=>by rw[BP,Cu,rn n,BP];rfl
theorem gG:OpR X (binaryOp .Mult) (fun x y H Q=>∃d n,Is H (.l [d]) x/\y= .int n/\-(2^63)<=n/\n<2^63/\n.toNat<=sizeLine/\∀p H2,H p=none->ae H H2->Is H2 (.l (List.replicate n.toNat d)) (.ref p)->Q (.ref p) H2):=
 yr.imp fun x y H Q ⟨d,n,hx,ey,h1,h2,hl,q⟩=>by
  obtain⟨a,vs,rfl,ha,ra⟩:=aB hx;obtain⟨u,us,rfl,hu,ru⟩:=aQ ra;rw[bp ru] at ha;refine⟨a,n,_,rfl,ey,ha,h1,h2,by rw[D4,Nat.one_mul];exact hl,fun p np=>q p _ np (ae.new np) ?_⟩;rw[rn];exact aD ak ((Iss.rep hu _).mono (ae.new np))
theorem iJ:bL X (.type "tuple") (fun vs H Q=>∃v xs,vs=[v]/\Is H (.l xs) v/\∀p H2,H p=none->ae H H2->Is H2 (.t xs) (.ref p)->Q (.ref p) H2):=
 yo.imp fun vs H Q ⟨v,xs,ev,hx,q⟩=>by
  subst ev;obtain⟨a,ws,rfl,ha,ra⟩:=aB hx;exact⟨a,ws,rfl, .inl ⟨SqL.of ha,fun p np=>q p _ np (ae.new np) (bw ak (ra.mono (ae.new np)))⟩⟩
theorem fT {α:Type}{xs:O4 α}{i:Int}{j:Nat}{x:α} (e:i=j) (h:xs[j]? =some x):atI xs i=some x:=by rw[e];exact jB h
theorem Iss.atI {H:Hp}{xs:O4 D}{vs:O4 V}{i:Int}{x:D} (h:Iss H xs vs) (e:L2.atI xs i=some x):∃u,L2.atI vs i=some u/\Is H x u:=by
 unfold L2.atI at e⊢;rw[h.length];cases q:ixN xs.length i with
 |none=>rw[q] at e;cases e
 |some j=>
  rw[q] at e;obtain⟨u,e1,k⟩:=h.get (j:=j) e;exact⟨u,e1,k⟩
theorem eR:IxR X (fun x y H Q=>∃xs i d,Is H (.l xs) x/\y= .int i/\atI xs i=some d/\∀u,Is H d u->Q u H):=by
 intro value Kw J' s σ H x y v u Q I rx ry h hs;obtain⟨xs,i,d,hx,ey,e,q⟩:=h;obtain⟨a,vs,rfl,ha,ra⟩:=aB hx;obtain⟨z,ez,hz⟩:=ra.atI e;exact cC value Kw J' s σ H (.ref a) y v u Q I rx ry ⟨a,vs,i,z,rfl,ey,SqL.of ha,ez,q z hz⟩ hs
theorem aG:IxR X (fun x y H Q=>∃xs i d,Is H (.t xs) x/\y= .int i/\atI xs i=some d/\∀u,Is H d u->Q u H):=by
 intro value Kw J' s σ H x y v u Q I rx ry h hs;obtain⟨xs,i,d,hx,ey,e,q⟩:=h;obtain⟨a,vs,rfl,ha,ra⟩:=bH hx;obtain⟨z,ez,hz⟩:=ra.atI e;exact yj value Kw J' s σ H (.ref a) y v u Q I rx ry ⟨a,vs,i,z,rfl,ey,SqT.of ha,ez,q z hz⟩ hs
theorem lG:bL X (.builtin "len") (fun vs H Q=>∃v xs,vs=[v]/\(Is H (.l xs) v\/Is H (.t xs) v)/\Q (.int xs.length) H):=
 jD.imp fun vs H Q ⟨v,xs,ev,hx,q⟩=>by
  subst ev;rcases hx with hx|hx
  .obtain⟨a,ws,rfl,ha,ra⟩:=aB hx;exact⟨a,ws,rfl, .inl (SqL.of ha),by rw[ra.length];exact q⟩
  .obtain⟨a,ws,rfl,ha,ra⟩:=bH hx;exact⟨a,ws,rfl, .inr (SqT.of ha),by rw[ra.length];exact q⟩
end
section
variable {X:Cx}{pos np Kl:Pos}{x:Str}{C:OZ}{E:XK}{e:O5}{es:O4 O5}{t:TA}
abbrev bmV:O4 MR:=[.type "ValueError", .type "Exception", .type "BaseException", .type "object"]
end
end L2
namespace L2
open PySem PySem.Calls PyProof.Rows PySem.W Builtin Builtin.ObjectAttr Builtin.Getset_descriptor
structure XC (K:Frag) (C:OZ):Prop where
 cl:(clsIn K C).isSome=true
 ga:findIn K (.ref C) "__getattribute__"=some (some (.builtin "BaseException.__getattribute__"))
 gt:findIn K (.ref C) "__getattr__"=some none
 ca:findIn K (.ref C) "__class__"=some (some (.builtin "object.__class__"))
 gn:specialIn K (.builtin "object.__class__") "__get__"=some (some (.builtin "getset_descriptor.__get__"))
 tk:takesIn K (.builtin "object.__class__")=some true
 ob:mroIn K C (.type "object")=some true
 be:mroIn K C (.type "BaseException")=some true
end L2
namespace L2
open PySem PySem.Spec PyProof.Rows PySem.W
variable {H:Hp}{K:W.Frag}{hi:Int}{n:Nat}
def Itd (hi:Int) (n:Nat):It:=⟨fun i _=>i<n,fun i H x H'=>H'=H/\x= .int (hi-i),fun i _=>n<=i⟩
theorem zo {P:O0}{w:O2}{tg:O5} (it:OZ) (hi:Int) (n:Nat):Turn P w K tg (Itd hi n) [it] it (fun i h=>IsRangeIter h it (hi+(i:Nat)*(-1)) ((n:Int)-(i:Nat)) (-1)) where
 mem:=by simp
 obj:=fun i h st b hb=>by
  obtain rfl:b=it:=by simpa using hb
  exact⟨_,st,fun v z=>by cases (show Data.fields _=Data.cell v from z)⟩
 keep:=fun i h h' st k=>k it (by simp) _ st
 item:=by
  intro X hP hw hK hc i J' s σ H E I hf st hg;subst hP hw hK;obtain⟨f0,f1,f2,f3,f4,f5⟩:=hf it (by simp);refine(Walks.range (prog:=X.prog) (w:=X.w) (I.ok.hd hc) it hi (-1) n).item i s _ _ hg st fun v h' tk hv Km kk=> ?_;obtain⟨t,rfl⟩:=hv;have I1:Inv X J' σ H {s with heap:=h',toks:=tk}:=I.turned (fun b o hb e=>kk b o (by simpa using hb) e) f0 f1 f3 f4 f5;refine⟨_,rfl,go_of (s:={s with heap:=h',toks:=tk}) (n:="range_iterator") Km rfl rfl (by decide) ⟨.int (hi-i),H,I1,⟨t, ?_⟩,⟨rfl,rfl⟩,Km,fun b hb=>(hf b hb).1⟩⟩;rw[show hi+(i:Int)*(-1)=hi-i by lia]
 done:=by
  intro X hP hw hK hc i J' s σ H E I hf st hg;subst hP hw hK;obtain⟨f0,f1,f2,f3,f4,f5⟩:=hf it (by simp);exact wpAny_pyNext_range_end (I.ok.hd hc) st (by have:n<=i:=hg;lia) fun h' eb=>⟨rfl,I.turned (t':=s.toks) (fun b o hb e=>eb b o hb e) f0 f1 f3 f4 f5⟩
 self:=fun _ _ _ _ _ st h=>wpAny_pyIter_rangeiter st h
theorem rp (a b:Int):Builtin.Range.rangeSize a b (-1)=if a>b then a-b else 0:=by
 unfold Builtin.Range.rangeSize;rw[A6 (by decide)];split
 .rw [show -(-1:Int)=1 by decide,Int.ediv_one];lia
 .rfl
theorem zp {a b:Int} (ha: -(2^62)<=a) (ha':a<2^62) (hb: -(2^62)<=b) (MQ:b<2^62):Builtin.Range.small a b (-1)=true:=by
 unfold Builtin.Range.small;rw[rp];simp only[Builtin.Range.rangeFitsLong,A9,CS,AU,DO,show((-1:Int)>0)=False by simp,Am];split<;>lia
section
variable {X:Cx}{tg:O5}
theorem zq {J':O4 (OZ×Obj)}{σ:St}{s:OY}{R:It->Hp->Prop}{E:MR->OY->Prop}{lo:Int}{t u v:Tok}{tk:Nat} (I:Inv X J' σ H s) (h1: -(2^62)<=hi) (h2:hi<2^62) (h3: -(2^62)<=lo) (h4:lo<2^62)
  (q:R (Itd hi (hi-lo).toNat) H):wpAny (model X.prog X.w) X.A (pyIter (.ref s.heap.objs.size)) (PIE X J' σ tg R) E {s with heap:=s.heap.push {cls:= .type "range",data:= .fields #[.int hi t, .int lo u, .int (-1) v]},toks:=tk}:=by
 refine wpAny_pyIter_range (IsRange.new ..) (zp h1 h2 h3 h4) ?_;generalize hg:s.heap.push {cls:= .type "range",data:= .fields #[.int hi t, .int lo u, .int (-1) v]}=g;have I1:Inv X J' σ H {s with heap:=g,toks:=tk}:=I.kept fun b o e=>by rw[<-hg];exact A4 _ e
 refine⟨g.objs.size,[g.objs.size],_,_,H,rfl,I1.kept (t':=tk) fun b o e=>A4 _ e,zo _ hi (hi-lo).toNat, ?_,fun b hb=> ?_,q⟩
 .have e1:hi+((0:Nat):Int)*(-1)=hi:=by simp
  have e2:(((hi-lo).toNat:Nat):Int)-((0:Nat):Int)=Builtin.Range.rangeSize hi lo (-1):=by rw[rp];split<;>lia
  show IsRangeIter _ _ (hi+((0:Nat):Int)*(-1)) ((((hi-lo).toNat:Nat):Int)-((0:Nat):Int)) (-1);rw[e1,e2];exact AI _ rfl
 .obtain rfl:b=g.objs.size:=by simpa using hb
  exact I1.fpOk (AB _) (I1.hok.fresh (AB _))
inductive iDown_ (R:(It->Hp->Prop)) (vs:List V) (H1:Hp):Prop
 |mk (i j:Int):vs=[.int i, .int j, .int (-1)]->(-(2^62)<=i/\i<2^62/\-(2^62)<=j/\j<2^62)->R (Itd i (i-j).toNat) H1->iDown_ R vs H1
def zr (ta:TA):TI:=fun σ H R=>ta σ H fun vs H1=>iDown_ R vs H1
theorem zt {a b c:O5}{ta:TA}{p pos:Pos} (hg:Gl X "range") (hm:X.mg "range"=none) (ha:PA X [a,b,c] ta) (hs:starEach [a,b,c] X.env=(false,eval a X.env)::starEach [b,c] X.env:=by rfl) (hs2:(backTo pos (starEach [b,c] X.env)).any (·.1)=false:=by rfl):
  PI X tg (.Call (.Name "range" p) [a,b,c] [] pos) (zr ta):=by
 intro J' s σ H R I h;refine Call_ (dg I hg hm boot_range (BH (thn (ha pos J' s σ H _ I h) fun us s1 ⟨vs,H1,I1,r1,q1⟩=> ?_) hs hs2));obtain⟨i,j,e,⟨q1,q2,q3,q4⟩,q⟩:=q1;subst e;cases r1 with
 |cons r rr=>
  cases rr with
  |cons r' rr=>
   cases rr with
   |cons r2 rr=>
    cases rr;obtain⟨t,rfl⟩:=r;obtain⟨t',rfl⟩:=r';obtain⟨t2,rfl⟩:=r2;exact call_range_3 (by decide) (zq I1 q1 q2 q3 q4 q) (.inl (PyProof.noPylong_small (by decide)))
end
theorem zu {g:TG}{tb:TS}{D:Ends}{σ:St}(Pv:Nat->St->Hp->Prop) (h0:Pv 0 σ H)
  (hs:∀i σ H,i<n->Pv i σ H->g (.int (hi-i)) σ H fun σ2 H2=>tb (eLp D (Pv (i+1))) σ2 H2) (hd:∀σ H,Pv n σ H->D.nx σ H):
  ∃Wq:Nat->Nat->St->Hp->Prop,(∃m,Wq 0 m σ H)/\∀i m σ H,Wq i m σ H->
   ((Itd hi n).stop i H/\D.nx σ H)\/((Itd hi n).go i H/\∃N:St->Hp->Prop,(∀σ' H',N σ' H'->∃m',m'<m/\Wq (i+1) m' σ' H')/\∀x H',(Itd hi n).yld i H x H'->g x σ H' fun σ2 H2=>tb (eLp D (N)) σ2 H2):=by
 refine⟨fun i m σ H=>m=n-i/\i<=n/\Pv i σ H,⟨n,by simp,AQ _,h0⟩, ?_⟩;rintro i m σ H ⟨rfl,Lq,p⟩;by_cases Kf:i<n
 .refine .inr ⟨Kf,Pv (i+1),fun σ' H' p'=>⟨n-(i+1),by lia,rfl,Kf,p'⟩,fun x H' y=> ?_⟩;obtain⟨e,y⟩:=y;subst e y;exact hs i σ _ Kf p
 .obtain rfl:i=n:=by lia
  exact .inl ⟨AB _,hd σ H p⟩
def zw (H:Hp) (v:V):Prop:=(∃i,v= .int i)\/(∃b,v= .bl b)\/v= .non\/(∃x,v= .str x)\/(∃a xs,v= .ref a/\H a=some (.lst xs))\/(∃a xs,v= .ref a/\H a=some (.tup xs))
def isI (v:V):Bool:=match v with
 | .int _=>true
 |_=>false
def Within (lo hi:Int) (v:V):Prop:=∃i,v= .int i/\lo<=i/\i<=hi
theorem zx :W.kitOne K (.type "NoneType") (.type "int")=some false:=gD (by ac_nf) (by ac_nf) (by ac_nf)
theorem zy :W.kitOne K (.type "str") (.type "int")=some false:=gD (by ac_nf) (by ac_nf) (by ac_nf)
theorem zA :W.kitOne K (.type "list") (.type "int")=some false:=gD (by ac_nf) (by ac_nf) (by ac_nf)
theorem zC :W.kitOne K (.type "tuple") (.type "int")=some false:=gD (by ac_nf) (by ac_nf) (by ac_nf)
inductive sp_whole (vs:List V) (H:Hp) (Q:VK) (E':XK):Prop
 |mk v:vs=[v]->zw H v->Q (.bl (isI v)) H->sp_whole vs H Q E'
theorem zD {ps:O4 Pt}{i:Int}{j:Nat}{p:Pt} (e:i=j) (h:ps[j]? =some p):atI (ps.map pt) i=some (pt p):=fT e (by rw[AF,h];rfl)
section
variable {X:Cx}{J':O4 (OZ×Obj)}{σ:St}{H:Hp}{s:OY}{h':O6}{ch:O4 OZ}{t':Nat}
theorem cm.chs (hf:∀b∈ch,cm X J' H b):∀b∈ch,(b∈X.ex\/X.s₀.heap.objs.size<=b)/\b≠X.env.locals/\(∀x c,X.env.cells.lookup x=some c->c≠b)/\∀p∈X.pn++J',p.1≠b:=fun b hb=>by
 obtain⟨_,a2,_,a4,a5,a6⟩:=hf b hb;exact⟨a4,a2,a5,a6⟩
theorem Inv.turnAll (I:Inv X J' σ H s) (hf:∀b∈ch,cm X J' H b) (k:∀b o,b∉ch->s.heap.get? b=some o->h'.get? b=some o):Inv X J' σ H {s with heap:=h',toks:=t'}:=by
 have nin:∀{b u},H b=some u->b∉ch:=fun e z=>by rw[(hf _ z).1] at e;cases e
 refine I.step (g':=s.gens) (d':=s.drawn) (ch:=ch) (cm.chs hf) (fun b o _ _ c e _=>k b o c e) (fun b o _ _ c e _=>⟨o.slots,k b o c e⟩) (fun _ _ _ _ n=>n) (fun b o c e=>⟨o,k b o c e⟩) (fun _ _ e=>e) (fun _ _ _ e=>e) (fun b ps e=>⟨#[],by rw[e];simp⟩) (fun m hm=> ?_) (fun b u e=> ?_) I.bare
 .obtain⟨o,es,ep,ho,r⟩:=hm;exact⟨o,es,ep,k _ o (fun z=>(hf _ z).2.1 rfl) ho,r⟩
 .refine(I.hok b u e).stay (fun c v hc q=>k c v ?_ q) (fun _ q=>q) fun _ _ q=>q;rcases hc with z|z
  .rw [z];exact nin e
  .exact nin z
theorem Inv.turnNew {o:HO} (I:Inv X J' σ H s) (hf:∀b∈ch,cm X J' H b) (k:∀b ob,b∉ch->s.heap.get? b=some ob->h'.get? b=some ob) (new:aI X.prog X.w (upd H s.heap.objs.size o) h' s.heap.objs.size o):
  Inv X J' σ (upd H s.heap.objs.size o) {s with heap:=h',toks:=t'}:=by
 have nf:H s.heap.objs.size=none:=I.hok.fresh (AB _);have nin:∀{b u},H b=some u->b∉ch:=fun e z=>by rw[(hf _ z).1] at e;cases e
 refine I.step (g':=s.gens) (d':=s.drawn) (ch:=ch) (cm.chs hf) (fun b o _ _ c e _=>k b o c e) (fun b o _ _ c e _=>⟨o.slots,k b o c e⟩) (fun b ob c e n=> ?_) (fun b o c e=>⟨o,k b o c e⟩) (fun b ys e=> ?_) (fun b o u e=> ?_) (fun b ps e=>⟨#[], ?_⟩) (fun m hm=> ?_) (fun b u e=> ?_) I.bare
 .rw [ax (AT (AM e))];exact n
 .rw [ax (bG e nf)];exact e
 .rw [ax (bG e nf)];exact e
 .rw [ax (bG e nf),e];simp
 .obtain⟨o,es,ep,ho,r⟩:=hm;exact⟨o,es,ep,k _ o (fun z=>(hf _ z).2.1 rfl) ho,r⟩
 .by_cases hb:b=s.heap.objs.size
  .subst hb;rw[ak] at e;cases e;exact new
  .rw [ax hb] at e;refine(I.hok b u e).stay (fun c v hc q=>k c v ?_ q) (fun c q=> ?_) fun c ys q=> ?_
   .rcases hc with z|z
    .rw [z];exact nin e
    .exact nin z
   .rw [ax (bG q nf)];exact q
   .rw [ax (bG q nf)];exact q
end
theorem lH :ft 2 (gTup K 2 (gCons (bu 0) (gCons (bu 1) fJ))):=by
 intro v σ H Q ⟨a,xs,e,hq,hl,x,r,ex,y,r2,er,en,q⟩;refine⟨a,xs,e,hq,hl,x,r,ex,y,r2,er,en,q, ?_,fun i hi=> ?_⟩
 .rw [BU,BU]
 .rw [Bl (by lia),Bl (by lia)]
def lI :∀(σ:St) (H:Hp) (R R':St->Hp->Prop) (x:V),(∀σ' H',R σ' H'->R' σ' H')->gTup K 2 (gCons (bu 0) (gCons (bu 1) fJ)) x σ H R->gTup K 2 (gCons (bu 0) (gCons (bu 1) fJ)) x σ H R':=
 fun σ H R R' v k ⟨a,xs,e,hq,hl,x,r,ex,y,r2,er,en,q⟩=>⟨a,xs,e,hq,hl,x,r,ex,y,r2,er,en,k _ _ q⟩
theorem jK {X:Cx}{es:O4 O5}{k:Nat}{pos:Pos}{t:TGs}(hK:X.K=K) (hc:X.calm=true) (h:PGs X es t)
  (hn:(assignEach es X.env).length=n:=by rfl) (Lm:(assignEach es X.env).findIdx? (·.1)=none:=by rfl):PG X (.Tuple es k pos) (gTup K n t):=hK▸cA hc h hn Lm
end L2
namespace PySem.SeqAt
open AutoSeq1 (wpAny_loadPart')
open MeetsSeq MeetsSeq2 MeetsSeq3 SeqRoads2
def LtAt (A:O3) (s:OY) (y x:MR) (b:Bool):Prop:=
 ∀(prog:O0) (w:O2) (E:MR->OY->Prop) (Q:MR->OY->Prop),Q (.bool b) s->wpAny (model prog w) A (richCompare .Lt y x) Q E s
def lex (e f:Nat->Bool) (m n:Nat):Nat->Nat->Bool
 |0,_=>decide (m<n)
 |k+1,i=>if e i=true then lex e f m n k (i+1) else f i
theorem zE (l b:OZ) (items Ka:Array MR) (n n2:Nat) (dd LO:O7 OZ) (sl LP:Array (O7 MR)) (e f:Nat->Bool) (k:Nat):
  ∀i:Nat,min items.size Ka.size-i=k->Meets (Builtin.«list.__eq__.loop» ⟨[.ref l, .ref b,rawInt i,rawInt 0],[]⟩)
   (fun A R s=>s.heap.get? l=some {cls:= .type "list",dict:=dd,data:= .seq items n,slots:=sl}/\s.heap.get? b=some {cls:= .type "list",dict:=LO,data:= .seq Ka n2,slots:=LP}/\
    (∀j (h1:j<items.size) (h2:j<Ka.size),EqAt A.in1 s items[j] Ka[j] (e j))/\(∀j (h1:j<items.size) (h2:j<Ka.size),e j=false->LtAt A.in1 s items[j] Ka[j] (f j))/\
    R (.ok (.ret (.bool (lex e f items.size Ka.size k i)))) s):=by
 induction k with
 |zero=>
  intro i hk prog w A R s h;obtain⟨hp,g,d,tk,os⟩:=s;obtain⟨hl,hb,he,hf,h⟩:=h
  wp_walk using wpAny_loadPart' hl,CY hb
  rcases(by lia:items.size<=i\/(i<items.size/\Ka.size<=i)) with q|⟨q1,q2⟩
  .have hi1:items[((i:Nat):Int).toNat]? =none:=by simp;lia
   rw[hi1]
   wp_walk using wpAny_loadPart' hl,CY hb
   exact h
  .have hi1:items[((i:Nat):Int).toNat]? =some items[i]:=by simp[q1]
   have Ly:Ka[((i:Nat):Int).toNat]? =none:=by simp;lia
   rw[hi1,Ly]
   wp_walk using wpAny_loadPart' hl,CY hb
   exact h
 |succ k ih=>
  intro i hk prog w A R s h;obtain⟨hp,g,d,tk,os⟩:=s;obtain⟨hl,hb,he,hf,h⟩:=h
  wp_walk using wpAny_loadPart' hl,CY hb
  have Kf:i<items.size:=by lia
  have Om:i<Ka.size:=by lia
  have hi1:items[((i:Nat):Int).toNat]? =some items[i]:=by simp[Kf]
  have Ly:Ka[((i:Nat):Int).toNat]? =some Ka[i]:=by simp[Om]
  have hc:((i:Int)+1)=((i+1:Nat):Int):=by push_cast;rfl
  unfold lex at h;rw[hi1,Ly];refine A0 (he i Kf Om prog w _ _ ?_);cases MQ:e i with
  |true=>
   rw[MQ,A8 rfl] at h
   wp_walk
   rw[hc];exact⟨DK plain_eq_loop _,CL entry_eq_loop (by
    rw[C3 plain_eq_loop _];exact ih (i+1) (by lia) prog w A R _ ⟨hl,hb,he,hf,h⟩)⟩
  |false=>
   rw[MQ,A6 (by simp)] at h
   wp_walk using wpAny_loadPart' hl,CY hb
   rw[hi1,Ly];refine A0 (hf i Kf Om MQ prog w _ _ ?_)
   wp_walk
   exact h
theorem rq (l b:OZ) (items Ka:Array MR) (n n2:Nat) (dd LO:O7 OZ) (sl LP:Array (O7 MR)) (e f:Nat->Bool):
  Meets (Builtin.«list.__lt__» ⟨[.ref l, .ref b],[]⟩)
   (fun A R s=>s.heap.get? l=some {cls:= .type "list",dict:=dd,data:= .seq items n,slots:=sl}/\s.heap.get? b=some {cls:= .type "list",dict:=LO,data:= .seq Ka n2,slots:=LP}/\
    (∀j (h1:j<items.size) (h2:j<Ka.size),EqAt A.in1 s items[j] Ka[j] (e j))/\(∀j (h1:j<items.size) (h2:j<Ka.size),e j=false->LtAt A.in1 s items[j] Ka[j] (f j))/\
    R (.ok (.ret (.bool (lex e f items.size Ka.size (min items.size Ka.size) 0)))) s):=by
 intro prog w A R s h;obtain⟨hp,g,d,tk,os⟩:=s;obtain⟨hl,hb,he,hf,h⟩:=h;have f3:=AutoSeq1.sub_list_list
 wp_walk using wpAny_loadPart' hl,CY hb
 exact⟨DK plain_eq_loop _,CL entry_eq_loop (by
  rw[C3 plain_eq_loop _];exact zE l b items Ka n n2 dd LO sl LP e f _ 0 rfl prog w A R _ ⟨hl,hb,he,hf,by simpa using h⟩)⟩
theorem zF (l b:OZ) (items Ka:Array MR) (n n2:Nat) (dd LO:O7 OZ) (sl LP:Array (O7 MR)) (e f:Nat->Bool):
  Meets (Builtin.«tuple.__lt__» ⟨[.ref l, .ref b],[]⟩)
   (fun A R s=>s.heap.get? l=some {cls:= .type "tuple",dict:=dd,data:= .seq items n,slots:=sl}/\s.heap.get? b=some {cls:= .type "tuple",dict:=LO,data:= .seq Ka n2,slots:=LP}/\
    (∀j (h1:j<items.size) (h2:j<Ka.size),EqAt A.in1 s items[j] Ka[j] (e j))/\(∀j (h1:j<items.size) (h2:j<Ka.size),e j=false->LtAt A.in1 s items[j] Ka[j] (f j))/\
    R (.ok (.ret (.bool (lex e f items.size Ka.size (min items.size Ka.size) 0)))) s):=
 .of_wp fun prog w A R s h=>by
  obtain⟨hp,g,d,tk,os⟩:=s;obtain⟨hl,hb,he,hf,h⟩:=h;have f2:=AutoSeq1.sub_tuple_tuple;have hZ:(items.toList.zip Ka.toList).length=min items.size Ka.size:=by simp
  wp_walk using wpAny_loadPart' hl,CY hb,Ba _ (fun aJ b s'=>b.1=none/\s'=⟨hp,g,d,tk,os⟩/\∃i,aJ=(items.toList.zip Ka.toList).drop i/\i<=min items.size Ka.size/\
   R (.ok (.ret (.bool (lex e f items.size Ka.size (min items.size Ka.size-i) i)))) ⟨hp,g,d,tk,os⟩) _
  case turn=>
   rintro⟨y,x⟩ aJ b s' ⟨MQ,rfl,i,hz,hile,hR⟩;have Kf:i<(items.toList.zip Ka.toList).length:=by
    rcases C4 i (items.toList.zip Ka.toList).length with h'|h'
    .exact h'
    .rw [CQ h'] at hz;cases hz
   have hm:i<min items.size Ka.size:=hZ▸Kf;have h1:i<items.size:=Ap hm (Nat.min_le_left _ _);have h2:i<Ka.size:=Ap hm (Nat.min_le_right _ _);rw[Ar Kf] at hz;injection hz with hyx hrest;have hy:y=items[i]:=by have:=BN Prod.fst hyx;simpa using this
   have hx:x=Ka[i]:=by have:=BN Prod.snd hyx;simpa using this
   subst hy hx;rw[show min items.size Ka.size-i=(min items.size Ka.size-(i+1))+1 by lia,lex] at hR;refine A0 (he i h1 h2 prog w _ _ ?_);cases hy:e i with
   |true=>
    rw[hy,A8 rfl] at hR
    wp_walk
    exact⟨rfl,rfl,i+1,hrest,by lia,hR⟩
   |false=>
    rw[hy,A6 (by simp)] at hR;rw[A8 (show(!false)=true from rfl)];refine A0 (Bz ?_);refine A0 (hf i h1 h2 hy prog w _ _ ?_)
    wp_walk
    exact⟨_,rfl,hR⟩
  case fin=>
   rintro⟨b1,b2⟩ s' ⟨MQ,rfl,i,hz,hile,hR⟩;simp only at MQ;subst MQ;have hi:i=min items.size Ka.size:=by
    rcases C4 i (items.toList.zip Ka.toList).length with h'|h'
    .rw [Ar h'] at hz;cases hz
    .lia
   subst hi;rw[Nat.sub_self] at hR
   wp_walk
   exact⟨_,rfl,hR⟩
  case h=>
   exact⟨rfl,rfl,0,rfl,AQ _,by simpa using h⟩
section
variable {A:O3}{s:OY}
def LtAt.int_int (i:Int) (t:Tok) (j:Int) (u:Tok):LtAt A s (.int i t) (.int j u) (decide (i<j)):=fun prog w E Q h=>wpAny_lt_int h
theorem LtAt.lists {l b:OZ}{items Ka:Array MR}{e f:Nat->Bool} (hl:s.heap.IsList l items) (hb:s.heap.IsList b Ka) (hu:A.units<cLine)
  (he:∀j (h1:j<items.size) (h2:j<Ka.size),EqAt A.in1 s items[j] Ka[j] (e j)) (hf:∀j (h1:j<items.size) (h2:j<Ka.size),e j=false->LtAt A.in1 s items[j] Ka[j] (f j)):
  LtAt A s (.ref l) (.ref b) (lex e f items.size Ka.size (min items.size Ka.size) 0):=fun prog w E Q h=>by
 obtain⟨⟨cls,dd,data,sl⟩,ho,hc,n,hd⟩:=id hl;obtain⟨⟨Nt,LO,data2,LP⟩,K5,LQ,n2,Lw⟩:=id hb;simp only at hc hd LQ Lw;subst hc hd LQ Lw;exact richCompare_meets_room (op:= .Lt) ⟨_,ho,rfl⟩ ⟨_,K5,rfl⟩ F.slot_list_lt F.entry_list_lt (F.args_list_lt_2 _ _) (rq l b items Ka n n2 dd LO sl LP e f)
  ⟨ho,K5,he,hf,show Value.bool (lex e f items.size Ka.size (min items.size Ka.size) 0)≠Value.notImplemented/\Q (.bool (lex e f items.size Ka.size (min items.size Ka.size) 0)) s from⟨(fun x=>nomatch x),h⟩⟩ hu
theorem LtAt.tuples {l b:OZ}{items Ka:Array MR}{e f:Nat->Bool} (hl:s.heap.IsTuple l items) (hb:s.heap.IsTuple b Ka) (hu:A.units<cLine)
  (he:∀j (h1:j<items.size) (h2:j<Ka.size),EqAt A.in1 s items[j] Ka[j] (e j)) (hf:∀j (h1:j<items.size) (h2:j<Ka.size),e j=false->LtAt A.in1 s items[j] Ka[j] (f j)):
  LtAt A s (.ref l) (.ref b) (lex e f items.size Ka.size (min items.size Ka.size) 0):=fun prog w E Q h=>by
 obtain⟨⟨cls,dd,data,sl⟩,ho,hc,n,hd⟩:=id hl;obtain⟨⟨Nt,LO,data2,LP⟩,K5,LQ,n2,Lw⟩:=id hb;simp only at hc hd LQ Lw;subst hc hd LQ Lw;exact richCompare_meets_room (op:= .Lt) ⟨_,ho,rfl⟩ ⟨_,K5,rfl⟩ F.slot_tuple_lt F.entry_tuple_lt (F.args_tuple_lt_2 _ _) (zF l b items Ka n n2 dd LO sl LP e f)
  ⟨ho,K5,he,hf,show Value.bool (lex e f items.size Ka.size (min items.size Ka.size) 0)≠Value.notImplemented/\Q (.bool (lex e f items.size Ka.size (min items.size Ka.size) 0)) s from⟨(fun x=>nomatch x),h⟩⟩ hu
theorem key_lists {prog:O0}{w:O2}{E:MR->OY->Prop}{l b:OZ}{items Ka:Array MR}{e f:Nat->Bool}{Q:Bool->OY->Prop} (hl:s.heap.IsList l items) (hb:s.heap.IsList b Ka) (hu:A.units<cLine)
  (he:∀j (h1:j<items.size) (h2:j<Ka.size),EqAt A.in1 s items[j] Ka[j] (e j)) (hf:∀j (h1:j<items.size) (h2:j<Ka.size),e j=false->LtAt A.in1 s items[j] Ka[j] (f j))
  (h:Q (lex e f items.size Ka.size (min items.size Ka.size) 0) s):wpAny (model prog w) A (PyProof.Rows.keyLt' PyProof.Rows.oneType' (.ref l) (.ref b)) Q E s:=by
 rw[PyProof.Rows.keyLt'_oneType,PyProof.Rows.oneLt'_eq];simp only[C1];refine A0 (wpAny_cRoomFor hu ?_);obtain⟨⟨cls,dd,data,sl⟩,ho,hc,n,hd⟩:=id hl;obtain⟨⟨Nt,LO,data2,LP⟩,K5,LQ,n2,Lw⟩:=id hb;simp only at hc hd LQ Lw;subst hc hd LQ Lw;refine A0 (wpAny_callSpecialIfBound?_slot (T:="list") ⟨_,ho,rfl⟩ F.slot_list_lt (call_meets F.slot_list_lt ⟨_,ho,rfl⟩ F.entry_list_lt (F.args_list_lt_2 _ _) (rq l b items Ka n n2 dd LO sl LP e f) ⟨ho,K5,he,hf, ?_⟩));exact B9 h
end
end PySem.SeqAt
namespace L2
open PySem PySem.Spec PyProof.Rows
variable {A:O3}{E:MR->OY->Prop}{H:Hp}{Q:Bool->OY->Prop}{a b:OZ}{o:Obj}{p:Array Nat}{prog:O0}{q:O4 Pt}{v:V}{vs:O4 MR}{w:O2}{xs:O4 Int}
inductive LtR (K:W.Frag) (H:Hp):Nat->V->V->Bool->Prop where
 |int (d:Nat) (i j:Int):LtR K H d (.int i) (.int j) (decide (i<j))
 |lists {d:Nat}{a b:Addr}{xs ys:List V} (es fs:Nat->Bool) (h1:SqL K H a xs) (h2:SqL K H b ys) (he:∀(j:Nat) x y,xs[j]? =some x->ys[j]? =some y->EqR K H d x y (es j)) (hf:∀(j:Nat) x y,xs[j]? =some x->ys[j]? =some y->es j=false->LtR K H d x y (fs j)):
  LtR K H (d+1) (.ref a) (.ref b) (SeqAt.lex es fs xs.length ys.length (min xs.length ys.length) 0)
 |tuples {d:Nat}{a b:Addr}{xs ys:List V} (es fs:Nat->Bool) (h1:SqT K H a xs) (h2:SqT K H b ys) (he:∀(j:Nat) x y,xs[j]? =some x->ys[j]? =some y->EqR K H d x y (es j)) (hf:∀(j:Nat) x y,xs[j]? =some x->ys[j]? =some y->es j=false->LtR K H d x y (fs j)):
  LtR K H (d+1) (.ref a) (.ref b) (SeqAt.lex es fs xs.length ys.length (min xs.length ys.length) 0)
section
variable {X:Cx}{J':O4 (OZ×Obj)}{σ:St}{H:Hp}{s:OY}
theorem dr {xs:O4 V}{is:O4 MR}{j:Nat} (r:au xs is) (q:j<is.toArray.size):∃x,xs[j]? =some x/\av x is.toArray[j]:=by
 have l:=r.length;have q':j<is.length:=by simpa using q
 have hx:xs[j]? =some xs[j]:=A2 (by lia);obtain⟨u,e,ru⟩:=r.get hx;refine⟨_,hx, ?_⟩;have g:is.toArray[j]=u:=by
  rw[A2 q'] at e;simpa using Option.some.inj e
 rw[g];exact ru
theorem LtR.bU (I:Inv X J' σ H s) {d:Nat}{x y:V}{b:Bool} (h:LtR X.K H d x y b):∀{A:O3}{u v:MR},A.units+d<cLine->av x u->av y v->SeqAt.LtAt A s u v b:=by
 induction h with
 |int d i j=>
  intro A u v hu ru rv;obtain⟨t,rfl⟩:=ru;obtain⟨t',rfl⟩:=rv;exact SeqAt.LtAt.int_int i t j t'
 | @lists d a b xs ys es fs h1 h2 he hf ih=>
  intro A u v hu ru rv;obtain rfl:u=Value.ref a:=ru;obtain rfl:v=Value.ref b:=rv;obtain⟨is,r1,p1,z1⟩:=I.list h1;obtain⟨js,r2,p2,z2⟩:=I.list h2;have l1:xs.length=is.toArray.size:=by have:=r1.length;simpa using this
  have l2:ys.length=js.toArray.size:=by have:=r2.length;simpa using this
  rw[l1,l2];refine SeqAt.LtAt.lists p1.isList p2.isList (by lia) (fun j q1 q2=> ?_) (fun j q1 q2 z=> ?_)
  .obtain⟨x,hx,rx⟩:=dr r1 q1;obtain⟨y,hy,ry⟩:=dr r2 q2;exact((he j _ _ hx hy).bU I (by rw[b9];lia) rx ry).2.2
  .obtain⟨x,hx,rx⟩:=dr r1 q1;obtain⟨y,hy,ry⟩:=dr r2 q2;exact ih j _ _ hx hy z (by rw[b9];lia) rx ry
 | @tuples d a b xs ys es fs h1 h2 he hf ih=>
  intro A u v hu ru rv;obtain rfl:u=Value.ref a:=ru;obtain rfl:v=Value.ref b:=rv;obtain⟨is,r1,p1,z1⟩:=I.tuple h1;obtain⟨js,r2,p2,z2⟩:=I.tuple h2;have l1:xs.length=is.toArray.size:=by have:=r1.length;simpa using this
  have l2:ys.length=js.toArray.size:=by have:=r2.length;simpa using this
  rw[l1,l2];refine SeqAt.LtAt.tuples (show s.heap.IsTuple a is.toArray from p1) (show s.heap.IsTuple b js.toArray from p2) (by lia) (fun j q1 q2=> ?_) (fun j q1 q2 z=> ?_)
  .obtain⟨x,hx,rx⟩:=dr r1 q1;obtain⟨y,hy,ry⟩:=dr r2 q2;exact((he j _ _ hx hy).bU I (by rw[b9];lia) rx ry).2.2
  .obtain⟨x,hx,rx⟩:=dr r1 q1;obtain⟨y,hy,ry⟩:=dr r2 q2;exact ih j _ _ hx hy z (by rw[b9];lia) rx ry
theorem LtR.key (I:Inv X J' σ H s) {d:Nat}{xs ys:O4 V}{es fs:Nat->Bool} (h1:SqL X.K H a xs) (h2:SqL X.K H b ys) (he:∀(j:Nat) x y,xs[j]? =some x->ys[j]? =some y->EqR X.K H d x y (es j)) (hf:∀(j:Nat) x y,xs[j]? =some x->ys[j]? =some y->es j=false->LtR X.K H d x y (fs j))
  (hu:A.units+(d+1)<cLine) (q:Q (SeqAt.lex es fs xs.length ys.length (min xs.length ys.length) 0) s):
  wpAny (model prog w) A (keyLt' oneType' (.ref a) (.ref b)) Q E s:=by
 obtain⟨is,r1,p1,z1⟩:=I.list h1;obtain⟨js,r2,p2,z2⟩:=I.list h2;have l1:xs.length=is.toArray.size:=by have:=r1.length;simpa using this
 have l2:ys.length=js.toArray.size:=by have:=r2.length;simpa using this
 rw[l1,l2] at q;refine SeqAt.key_lists p1.isList p2.isList (by lia) (fun j q1 q2=> ?_) (fun j q1 q2 z=> ?_) q
 .obtain⟨x,hx,rx⟩:=dr r1 q1;obtain⟨y,hy,ry⟩:=dr r2 q2;exact((he j _ _ hx hy).bU I (by rw[b9];lia) rx ry).2.2
 .obtain⟨x,hx,rx⟩:=dr r1 q1;obtain⟨y,hy,ry⟩:=dr r2 q2;exact(hf j _ _ hx hy z).bU I (by rw[b9];lia) rx ry
end
def iK (ns:O4 Int):Int:=ns.getD (argBest (fun i j=>decide (ns.getD i 0<ns.getD j 0)) (ns.length-1)) 0
def dF (ns:O4 Int):Int:=ns.getD (argBest (fun i j=>decide (ns.getD i 0>ns.getD j 0)) (ns.length-1)) 0
section
variable {X:Cx}
theorem jL {ys:Array (Int×Tok)}{ns:O4 Int} (h:ys.toList.map (·.1)=ns) (i:Nat):numAt ys i=ns.getD i 0:=by
 subst h;unfold numAt;rw[List.getD,AF,Bt]
theorem zG (hc:X.calm=true):bL X (.builtin "min") (fun xs H Q=>∃(p:OZ) (ns:O4 Int),xs=[.ref p]/\SqL X.K H p (ns.map V.int)/\0<ns.length/\Q (.int (iK ns)) H):=by
 intro J' s σ H xs us Q I r h;obtain⟨p,ns,rfl,hq,h0,q⟩:=h;obtain⟨u,rfl,rx⟩:=cB r;cases rx;obtain⟨Kd,r',pl,hz⟩:=I.list hq;have hi:IntsAre Kd ns:=jA r';obtain⟨ys,e⟩:=hi.allInts.items;have n1:=hi.numsOf;rw[show Kd=Kd.toArray.toList from rfl,e,nums_intItems] at n1;have hsz:ys.size=ns.length:=by rw[<-n1];simp
 have hl:=pl.isList;rw[e] at hl;refine min_intList (I.ok.hd hc) hl (by lia) fun v h' tk hv hk=> ?_;obtain⟨t,rfl⟩:=intItems_at hv;refine⟨.int (iK ns),H,I.kept hk,⟨t, ?_⟩,q⟩;unfold iK;rw[jL n1,hsz];simp only[jL n1]
theorem rA (hc:X.calm=true):bL X (.builtin "max") (fun xs H Q=>∃(p:OZ) (ns:O4 Int),xs=[.ref p]/\SqL X.K H p (ns.map V.int)/\0<ns.length/\Q (.int (dF ns)) H):=by
 intro J' s σ H xs us Q I r h;obtain⟨p,ns,rfl,hq,h0,q⟩:=h;obtain⟨u,rfl,rx⟩:=cB r;cases rx;obtain⟨Kd,r',pl,hz⟩:=I.list hq;have hi:IntsAre Kd ns:=jA r';obtain⟨ys,e⟩:=hi.allInts.items;have n1:=hi.numsOf;rw[show Kd=Kd.toArray.toList from rfl,e,nums_intItems] at n1;have hsz:ys.size=ns.length:=by rw[<-n1];simp
 have hl:=pl.isList;rw[e] at hl;refine max_intList (I.ok.hd hc) hl (by lia) fun v h' tk hv hk=> ?_;obtain⟨t,rfl⟩:=intItems_at hv;refine⟨.int (dF ns),H,I.kept hk,⟨t, ?_⟩,q⟩;unfold dF;rw[jL n1,hsz];simp only[jL n1]
theorem rB {s:OY}{h':O6}(hk:∀b x,b∉[s.heap.objs.size]->(s.heap.push o).get? b=some x->h'.get? b=some x):∀b x,s.heap.get? b=some x->h'.get? b=some x:=
 fun b x e=>hk b x (fun hm=>by rw[AY.mp hm] at e;exact C6 _ (AM e)) (A4 _ e)
theorem zH (hc:X.calm=true):bL X (.builtin "all") (fun xs H Q=>∃(p:OZ) (bs:O4 Bool),xs=[.ref p]/\SqL X.K H p (bs.map V.bl)/\Q (.bl (bs.all id)) H):=by
 intro J' s σ H xs us Q I r h;obtain⟨p,bs,rfl,hq,q⟩:=h;obtain⟨u,rfl,rx⟩:=cB r;cases rx;obtain⟨Kd,r',pl,hz⟩:=I.list hq;have hl:=pl.isList;have Kf:p<s.heap.objs.size:=by obtain⟨_,e,_⟩:=hl;exact AM e
 have hln:Kd.length=bs.length:=by have:=r'.length;simpa using this.symm
 refine call_all_walk (wpAny_pyIter_list hl ?_);refine⟨s.heap.objs.size,[s.heap.objs.size,p],[s.heap.objs.size],Kd.toArray.size,_,_,fun i=>(bs[i]?).getD true,rfl,Walks.list (A:=X.A.in1) (I.ok.hd hc) _ p (AT Kf) Kd.toArray,
  ⟨⟨_,AI _ rfl,rfl,rfl⟩,hl.push _⟩,fun i v s' Q' E' hP hQ=> ?_,fun h' tk hk=> ?_⟩
 .have hv:Kd[i]? =some v:=by simpa using hP
  have Nx:i<bs.length:=by rw[<-hln];exact(AD.mp hv).1
  obtain⟨u,hu,ru⟩:=r'.get (show(bs.map V.bl)[i]? =some (.bl bs[i]) by rw[AF,A2 Nx];rfl);rw[hv] at hu;cases hu;obtain rfl:v=Value.bool bs[i]:=ru;simp only[A2 Nx,Option.getD_some] at hQ;exact B9 hQ
 .refine⟨.bl (bs.all id),H,I.kept (rB hk), ?_,q⟩;show Value.bool _=Value.bool _;rw[AE,hln,PyProof.Rows.LSm.range_all]
theorem zI (hc:X.calm=true):bL X (.builtin "any") (fun xs H Q=>∃(p:OZ) (bs:O4 Bool),xs=[.ref p]/\SqL X.K H p (bs.map V.bl)/\Q (.bl (bs.any id)) H):=by
 intro J' s σ H xs us Q I r h;obtain⟨p,bs,rfl,hq,q⟩:=h;obtain⟨u,rfl,rx⟩:=cB r;cases rx;obtain⟨Kd,r',pl,hz⟩:=I.list hq;have hl:=pl.isList;have Kf:p<s.heap.objs.size:=by obtain⟨_,e,_⟩:=hl;exact AM e
 have hln:Kd.length=bs.length:=by have:=r'.length;simpa using this.symm
 refine call_any_walk (wpAny_pyIter_list hl ?_);refine⟨s.heap.objs.size,[s.heap.objs.size,p],[s.heap.objs.size],Kd.toArray.size,_,_,fun i=>(bs[i]?).getD false,rfl,Walks.list (A:=X.A.in1) (I.ok.hd hc) _ p (AT Kf) Kd.toArray,
  ⟨⟨_,AI _ rfl,rfl,rfl⟩,hl.push _⟩,fun i v s' Q' E' hP hQ=> ?_,fun h' tk hk=> ?_⟩
 .have hv:Kd[i]? =some v:=by simpa using hP
  have Nx:i<bs.length:=by rw[<-hln];exact(AD.mp hv).1
  obtain⟨u,hu,ru⟩:=r'.get (show(bs.map V.bl)[i]? =some (.bl bs[i]) by rw[AF,A2 Nx];rfl);rw[hv] at hu;cases hu;obtain rfl:v=Value.bool bs[i]:=ru;simp only[A2 Nx,Option.getD_some] at hQ;exact B9 hQ
 .refine⟨.bl (bs.any id),H,I.kept (rB hk), ?_,q⟩;show Value.bool _=Value.bool _;rw[AE,hln,PyProof.Rows.LSm.range_any]
inductive ipM (x:V) (y:V) (H:Hp) (Q:VK):Prop
 |mk i j:x= .int i->y= .int j->jy i j->Q (.int (i*j)) H->ipM x y H Q
theorem lJ:PIp X .Mult ipM:=by
 intro J' s σ H x y v u Q I r1 r2 h;obtain⟨i,j,e1,e2,c,q⟩:=h;subst e1;subst e2;obtain⟨t,rfl⟩:=r1;obtain⟨t',rfl⟩:=r2;exact imul_int ⟨.int _,H,I.tok _,⟨_,rfl⟩,q⟩ c.ok
end
def tI (xs:O4 Int):D:= .t (xs.map .i)
theorem jM {H:Hp}:∀{xs:O4 Int}{vs:O4 V},Iss H (xs.map .i) vs->vs=xs.map V.int
 |[],vs,h=>h
 |x::xs,vs,h=>by
  obtain⟨u,us,rfl,h1,h2⟩:=h;rw[az h1,jM h2];rfl
theorem lK {H:Hp}:∀(xs:O4 Int),Iss H (xs.map .i) (xs.map V.int)
 |[]=>rfl
 |x::xs=>⟨_,_,rfl,bv,lK xs⟩
theorem bM (h:Is H (tI xs) v):∃a,v= .ref a/\H a=some (.tup (xs.map V.int)):=by
 obtain⟨a,vs,rfl,ha,hi⟩:=bH h;rw[jM hi] at ha;exact⟨a,rfl,ha⟩
def eS (h:H a=some (.tup (xs.map V.int))):Is H (tI xs) (.ref a):=bw h (lK xs)
open PySem.W
section
variable {n:Nat}
def Ord (n:Nat) (p:Array Nat):Prop:=p.Perm (List.range n).toArray
theorem Ord.size {p:Array Nat} (h:Ord n p):p.size=n:=by
 have:=(DT.mp h).length_eq;simpa using this
theorem Ord.lt (h:Ord n p) {i:Nat} (hi:i∈p.toList):i<n:=by
 have:=(DT.mp h).mem_iff.mp hi;simpa using this
theorem Ord.bubble {p:Array Nat} (h:Ord n p) (i j:Nat):Ord n (PyProof.Rows.bubble p i j):=(bubble_perm p i j).trans h
def Ord.kas (h:Ord n p) (i j:Nat):Ord n (kas_rev p i j):=(mirror_perm p i j _).trans h
theorem Ord.getD {p:Array Nat} (h:Ord n p) (hn:0<n) (i:Nat):p.getD i 0<n:=by
 by_cases hi:i<p.size
 .have e:p.getD i 0=p[i]:=by simp[Array.getD,hi]
  rw[e];exact h.lt (by simp)
 .have e:p.getD i 0=0:=by simp[Array.getD,hi]
  rw[e];exact hn
def bN (n:Nat) {α:Type} (R:α->Prop):KasT α->Prop
 | .ret a=>R a
 | .ask i j k=>i<n/\j<n/\∀b,bN n R (k b)
theorem bN.bind {α β:Type}{R:α->Prop}{R':β->Prop}{f:α->KasT β} (hf:∀a,R a->bN n R' (f a)):∀{t:KasT α},bN n R t->bN n R' (t.bind f)
 | .ret a,h=>hf a h
 | .ask i j k,h=>⟨h.1,h.2.1,fun b=>bN.bind hf (h.2.2 b)⟩
variable (hn:0<n)
include hn
theorem lL {p:Array Nat} (h:Ord n p):∀f m,bN n (fun _=>True) (kas_asc p f m)
 |0,m=>trivial
 |f+1,m=>⟨h.getD hn _,h.getD hn _,fun b=>by
  cases b with
  |true=>exact trivial
  |false=>exact lL h f (m+1)⟩
theorem jN:∀(f:Nat) (p:Array Nat) (m q:Nat),Ord n p->bN n (fun r=>Ord n r.1) (kas_desc f p m q)
 |0,p,m,q,h=>h
 |f+1,p,m,q,h=>⟨h.getD hn _,h.getD hn _,fun b=>by
  cases b with
  |true=>
   show bN n _ (if q>0 then kas_desc f (kas_rev p (m-(q+1)) m) (m+1) 0 else kas_desc f p (m+1) 0);by_cases hq:q>0
   .rw [A8 hq];exact jN f _ _ _ (h.kas _ _)
   .rw [A6 hq];exact jN f _ _ _ h
  |false=>
   refine(show bN n _ (KasT.ask (p.getD (m-1) 0) (p.getD m 0) fun d=>if d=true then KasT.ret (p,m,q) else kas_desc f p (m+1) (q+1)) from⟨h.getD hn _,h.getD hn _,fun b=> ?_⟩);cases b with
   |true=>exact h
   |false=>exact jN f _ _ _ h⟩
theorem rC (h:Ord n p) (m k:Nat):bN n (fun r=>Ord n r.2) (kas_tail3 m k p):=by
 unfold kas_tail3;refine bN.bind (fun a _=> ?_) (lL hn (h.kas 0 m) _ _);exact h.kas 0 m
theorem rE (h:Ord n p) (m k:Nat):bN n (fun r=>Ord n r.2) (kas_descPart m k p):=by
 refine(jN hn _ _ _ _ h).bind fun r hr=> ?_;by_cases hq:r.2.2>0
 .rw [A8 hq];exact rC hn (hr.kas _ _) _ _
 .rw [A6 hq];exact rC hn hr _ _
theorem zJ (h:Ord n p) (k:Nat):bN n (fun r=>Ord n r.2) (kas_count k p):=by
 refine(lL hn h _ _).bind fun m _=> ?_;by_cases h1:(m==k)=true
 .rw [A8 h1];exact h
 .rw [A6 h1];by_cases h2:m>1
  .rw [A8 h2];refine⟨h.getD hn _,h.getD hn _,fun b=> ?_⟩;cases b with
   |true=>exact h
   |false=>exact rE hn (h.kas _ _) _ _
  .rw [A6 h2];exact rE hn h _ _
theorem lM {p:Array Nat} (h:Ord n p) (k:Nat):∀f l r,bN n (fun _=>True) (kas_place p k f l r)
 |0,l,r=>trivial
 |f+1,l,r=>by
  unfold kas_place;by_cases h1:l>=r
  .rw [A8 h1];exact trivial
  .rw [A6 h1];refine⟨h.getD hn _,h.getD hn _,fun b=> ?_⟩;cases b with
   |true=>exact lM h k f _ _
   |false=>exact lM h k f _ _
theorem rF:∀(f:Nat) (p:Array Nat) (k:Nat),Ord n p->bN n (Ord n) (kas_bin f p k)
 |0,p,k,h=>h
 |f+1,p,k,h=>(lM hn h k _ _ _).bind fun l _=>rF f _ _ (h.bubble _ _)
theorem zK:bN n (Ord n) (kas_sort n):=by
 refine(zJ hn (show Ord n (List.range n).toArray from Array.Perm.refl _) n).bind fun r hr=> ?_;by_cases h:r.1<n
 .rw [A8 h];exact rF hn _ _ _ hr
 .rw [A6 h];exact hr
end
section
variable {prog:O0}{w:O2}{A:O3}{E:MR->OY->Prop}{s:OY}
def eT (vs:O4 MR) (i:Nat):Keyed:=(vs.getD i .none,vs.getD i .none)
abbrev bj (h:O6) (a:OZ) (vs:O4 MR):O6:=((h.update a (Obj.mapSeq fun _=>(#[]:Array MR))).push (seqObj "tuple" vs.toArray 0)).push (seqObj "list" #[] 0)
theorem zL (vs:O4 MR):(List.toArray (List.range vs.length)).map (eT vs)=vs.toArray.zip vs.toArray:=by
 refine Array.ext (by simp) fun i h1 h2=> ?_;have hi:i<vs.length:=by simpa using h1
 simp[eT,hi]
abbrev iL (h:O6) (vs:O4 MR):O6:=bj (((h.push (seqObj "list" #[] 0)).update h.objs.size (Obj.mapSeq (· ++vs.toArray))).push (seqObj "list" vs.toArray 0)) (h.objs.size+1) vs
theorem zM {h:O6}(hb:h.get? b=some o):(iL h vs).get? b=some o:=by
 have Kf:b<h.objs.size:=AM hb;have sz:(((h.push (seqObj "list" #[] 0)).update h.objs.size (Obj.mapSeq (· ++vs.toArray))).push (seqObj "list" vs.toArray 0)).objs.size=h.objs.size+2:=by rw[C5,BA,C5]
 have n0:b≠h.objs.size:=AT Kf;have n1:b≠h.objs.size+1:=AT (Ak Kf);have n2:b≠h.objs.size+2:=AT (Ak (Ak Kf));have n3:b≠h.objs.size+2+1:=AT (Ak (Ak (Ak Kf)));rw[BB _ _ _ (by rw[C5,BA,sz];exact n3),BB _ _ _ (by rw[BA,sz];exact n2),DV _ _ _ _ n1,
  BB _ _ _ (by rw[BA,C5];exact n1),DV _ _ _ _ n0,BB _ _ _ n0]
 exact hb
end
section
variable {prog:O0}{w:O2}{A:O3}{E:MR->OY->Prop}{s:OY}
theorem rG {n:Nat}{P:PySem.Fin->OY->Prop} (ho:s.heap.get? a=some (seqObj "list" vs.toArray n)) (h2:vs.length<2)
  (h:P (.done (.ret .none)) {s with heap:=sortedHeap s.heap a vs vs.toArray}):wpAny (model prog w) A (Builtin.«list.sort» ⟨[.ref a],[]⟩) P E s:=by
 rw[list_sort_plain];have ha:a<s.heap.objs.size:=AM ho;refine A0 (listItems_at ho rfl ?_);refine A0 (Cm ho rfl ?_ (by rw[AE,Av];lia) (AQ _));obtain⟨e1,KN⟩:∃e1,(s.heap.update a (Obj.mapSeq fun _=>(#[]:Array MR))).get? a=some (seqObj "list" #[] e1):=⟨_,Cg ho (fun _=> #[])⟩;refine A0 (seqEpoch_at KN rfl ?_);refine A0 (wpAny_newTuple ?_ (by show vs.length<=_;rw[Av];lia));refine A0 (DJ ?_ (AQ _));refine Az ?_;have MC:(bj s.heap a vs).get? a=some (seqObj "list" #[] e1):=by
  rw[BB _ _ _ (by rw[C5,BA];exact AT (Ak ha)),BB _ _ _ (by rw[BA];exact AT ha)];exact KN
 show wpAny (model prog w) A _ P E {s with heap:=bj s.heap a vs};dsimp only;have Nf:vs.toArray.size<2:=by rw[AE];lia
 rw[A8 Nf,A8 Nf];refine A0 (A3 ?_);rw[StateT.run_pure];refine A0 (A3 ?_);dsimp only;have eo:(vs.toArray.zip vs.toArray).map (·.2)=vs.toArray:=by
  refine Array.ext (by simp) fun i h1 h2=> ?_;simp
 refine A0 (seqEpoch_at MC rfl ?_);rw[eo];refine A0 (Cm MC rfl ?_ (AQ _) (by rw[AE,Av];lia));simp only[Cr,AG,Am];exact A3 h
theorem zN {l:OZ}{Q:MR->OY->Prop} (hl:s.heap.IsList l vs.toArray) (h2:vs.length<2)
  (h:Q (.ref (s.heap.objs.size+1)) {s with heap:=sortedAll s.heap vs vs.toArray}):wpAny (model prog w) A (call (.builtin "sorted") [.ref l]) Q E s:=by
 refine Calls.call_function_entry kind_sorted plain_sorted entry_sorted (args_sorted1 _) ?_;unfold Builtin.«sorted»;refine A0 (m:=checkCount "sorted" 1 1 _) (A3 ?_);refine A0 (collect_list hl ?_ (by rw[Av];lia));refine A0 (DJ ?_ (by rw[Av];lia));have hsz:((s.heap.push (seqObj "list" #[] 0)).update s.heap.objs.size (Obj.mapSeq (· ++vs.toArray))).objs.size=s.heap.objs.size+1:=by
  rw[BA,C5]
 have Oa:(((s.heap.push (seqObj "list" #[] 0)).update s.heap.objs.size (Obj.mapSeq (· ++vs.toArray))).push (seqObj "list" vs.toArray 0)).get? (s.heap.objs.size+1)=some (seqObj "list" vs.toArray 0):=by
  rw[<-hsz];exact AI _ rfl
 show wpAny _ _ _ _ _ {s with heap:=((s.heap.push (seqObj "list" #[] 0)).update s.heap.objs.size (Obj.mapSeq (· ++vs.toArray))).push (seqObj "list" vs.toArray 0)};rw[hsz];refine A0 (Az (Ai slot_list_sort ⟨_,Oa,rfl⟩ entry_list_sort (rG (s:={s with heap:=((s.heap.push (seqObj "list" #[] 0)).update s.heap.objs.size (Obj.mapSeq (· ++vs.toArray))).push (seqObj "list" vs.toArray 0)}) Oa h2 ⟨_,rfl, ?_⟩) (args_list_sort _)));exact A3 ⟨_,rfl,h⟩
end
section
variable {X:Cx}
theorem lN {rs:O4 V}{Kd:O4 MR} (r:au rs Kd):∀(l:O4 Nat),(∀i∈l,i<rs.length)->au (l.map fun i=>rs.getD i .non) (l.map fun i=>Kd.getD i .none)
 |[],_=> .nil
 |i::l,h=>by
  have hi:i<rs.length:=h i (by simp);have e:rs[i]? =some rs[i]:=A2 hi;obtain⟨u,hu,ru⟩:=r.get e;rw[AK,AK];refine .cons ?_ (lN r l fun j hj=>h j (by simp[hj]));rw[List.getD,List.getD,e,hu];exact ru
end
def cV (fin:Bool):O4 Int->O4 Int->Bool
 |x::xs,y::ys=>if x=y then cV fin xs ys else decide (x<y)
 |_,_=>fin
def ltI (xs ys:O4 Int):Bool:=cV (decide (xs.length<ys.length)) xs ys
section
variable {prog:O0}{w:O2}{A:O3}{E:MR->OY->Prop}{s:OY}
theorem rH {fin:Bool}{Q:Bool->OY->Prop}:∀{xs ys:O4 Int}{is js:O4 MR} (i:Nat),au (xs.map V.int) is->au (ys.map V.int) js->Q (cV fin xs ys) s->KatLex prog w A true fin Q (is.zip js) i s
 |[],ys,is,js,i,h1,h2,q=>by
  cases h1;rw[List.zip_nil_left];exact kat_nil (by cases ys<;>exact q)
 |x::xs,[],is,js,i,h1,h2,q=>by
  cases h2;rw[List.zip_nil_right];exact kat_nil q
 |x::xs,y::ys,is,js,i,h1,h2,q=>by
  cases h1 with
  |cons r1 h1=>
  cases h2 with
  |cons r2 h2=>
  obtain⟨t,rfl⟩:=r1;obtain⟨t',rfl⟩:=r2;rw[DP];refine kat_cons ?_;refine wpAny_eqBool_int ?_;unfold cV at q;by_cases e:x=y
  .rw [A8 e] at q;rw[show(x==y)=true by simp[e]];exact kat_yes (rH (i+1) h1 h2 q)
  .rw [A6 e] at q;rw[show(x==y)=false by simp[e]];refine kat_no ?_;cases hb:(true&&i==0) with
   |true=>exact oneLt_int q
   |false=>exact kat_one _ _ (SeqAt.LtAt.int_int x t y t' prog w _ _ q)
end
theorem zO (xss:O4 (O4 Int)):(List.range xss.length).map (fun i=>xss.getD i [])=xss:=by
 refine List.ext_getElem (by simp) fun i h1 h2=> ?_;simp[List.getD,h2]
theorem rJ {H:Hp}{xss:O4 (O4 Int)}{rs:O4 V} (h:Iss H (xss.map tI) rs):∀(l:O4 Nat),(∀i∈l,i<xss.length)->Iss H ((l.map fun i=>xss.getD i []).map tI) (l.map fun i=>rs.getD i .non)
 |[],_=>rfl
 |i::l,hl=>by
  have hi:i<xss.length:=hl i (by simp);have hr:i<rs.length:=by rw[h.length,A1];exact hi
  refine⟨_,_,rfl, ?_,rJ h l fun j hj=>hl j (by simp[hj])⟩;obtain⟨d,hd,h1⟩:=h.of_get (A2 hr);rw[AF,A2 hi] at hd;cases hd;show Is H (tI (xss.getD i [])) (rs.getD i .non);rw[A7,A7,A2 hi,A2 hr];exact h1
section
variable {X:Cx}{J':O4 (OZ×Obj)}{σ:St}{H:Hp}{s:OY}
theorem rK (I:Inv X J' σ H s):∀{xss:O4 (O4 Int)}{rs:O4 V}{Kd:O4 MR},Iss H (xss.map tI) rs->au rs Kd->(∀xs∈xss,xs≠[])->∃fs:O4 MR,KatTups s.heap Kd fs/\fs.length=Kd.length/\∀f∈fs,∃z t,f=Value.int z t
 |[],rs,Kd,h,r,_=>by
  obtain rfl:rs=[]:=h;cases r;exact⟨[],KatTups.nil,rfl,fun _ h=>nomatch h⟩
 |xs::xss,rs,Kd,h,r,Kt=>by
  obtain⟨u,us,rfl,h1,h2⟩:=h;cases r with
  |cons r1 r2=>
  rename_i v Kd;obtain⟨fs,k1,k2,k3⟩:=rK I h2 r2 fun ys hy=>Kt ys (by simp[hy]);obtain⟨a,rfl,ha⟩:=bM h1;obtain rfl:v=Value.ref a:=r1;obtain⟨is,q1,q2,q3⟩:=I.tuple (SqT.of (K:=X.K) ha);obtain⟨o,ho,hc,n,hd⟩:=(show s.heap.IsTuple a is.toArray from q2)
  match xs,Kt xs (by simp) with
  |x::LR,_=>
  cases q1 with
  |cons q0 q1=>
  obtain⟨t,rfl⟩:=q0;refine⟨.int x t::fs,KatTups.cons ho hc hd (by simp) k1,by simp[k2],fun f hf=> ?_⟩;rcases AJ.mp hf with rfl|hf
  .exact⟨_,_,rfl⟩
  .exact k3 f hf
theorem zQ (I:Inv X J' σ H s) {ys:O4 Int} (h1:SqT X.K H a (xs.map V.int)) (h2:SqT X.K H b (ys.map V.int)) (q:Q (ltI xs ys) s):
  wpAny (model prog w) A (keyLt' (tuples' true) (.ref a) (.ref b)) Q E s:=by
 obtain⟨is,r1,p1,z1⟩:=I.tuple h1;obtain⟨js,r2,p2,z2⟩:=I.tuple h2;obtain⟨o1,KN,hc1,n1,hd1⟩:=(show s.heap.IsTuple a is.toArray from p1);obtain⟨o2,K5,LQ,n2,Lw⟩:=(show s.heap.IsTuple b js.toArray from p2);refine kat_lt KN hd1 K5 Lw ?_;have l1:is.toArray.size=xs.length:=by have:=r1.length;simp at this⊢;lia
 have l2:js.toArray.size=ys.length:=by have:=r2.length;simp at this⊢;lia
 rw[l1,l2];exact rH 0 r1 r2 q
end
def jO (v:MR) (k:Int):Bool:=match v with
 | .int i _=>decide (i=k)
 |_=>false
def eU:O4 DictEntry->O4 (Int×Int)->Bool
 |[],[]=>true
 |e::es,p::Kb=>jO e.key p.1&&decide (e.hash=hashInt p.1)&&jO e.val p.2&&eU es Kb
 |_,_=>false
def rL (o:Obj) (Kb:O4 (Int×Int)):Bool:=match o.cls,o.dict,o.data with
 | .type c,none, .dict es _=>c=="dict"&&o.slots.isEmpty&&eU es.toList Kb
 |_,_,_=>false
def gH (K:W.Frag) (a:OZ) (Kb:O4 (Int×Int)):Bool:=match K.lookup a with
 |some o=>rL o Kb
 |none=>false
theorem rM {v:MR}{k:Int} (h:jO v k=true):∃t,v= .int k t:=by
 unfold jO at h;split at h
 .rename_i i t;exact⟨t,by rw[B6 h]⟩
 .cases h
theorem rN {e:DictEntry}{es:O4 DictEntry}{p:Int×Int}{Kb:O4 (Int×Int)} (h:eU (e::es) (p::Kb)=true):(∃t,e.key= .int p.1 t)/\e.hash=hashInt p.1/\(∃t,e.val= .int p.2 t)/\eU es Kb=true:=by
 unfold eU at h;rw[A9,A9,A9] at h;exact⟨rM h.1.1.1,B6 h.1.1.2,rM h.1.2,h.2⟩
theorem rO:∀{es:O4 DictEntry}{Kb:O4 (Int×Int)},eU es Kb=true->∀e∈es,∃k,Value.isInt k e.key=true/\e.hash=hashInt k
 |[],_,_,e,he=>nomatch he
 |e::es,[],h,_,_=>by unfold eU at h;cases h
 |e::es,p::Kb,h,e',he=>by
  obtain⟨⟨t,h1⟩,h2,_,h4⟩:=rN h;rcases AJ.mp he with rfl|he
  .exact⟨p.1,by rw[h1];simp[Value.isInt],h2⟩
  .exact rO h4 e' he
theorem rP {k v:Int}:∀{es:O4 DictEntry}{Kb:O4 (Int×Int)},eU es Kb=true->Kb.lookup k=some v->∃t,(es.find? fun e=>Value.isInt k e.key).map (·.val)=some (.int v t)
 |_,[],_,hv=>nomatch hv
 |[],p::Kb,h,_=>by unfold eU at h;cases h
 |e::es,p::Kb,h,hv=>by
  obtain⟨⟨t,h1⟩,h2,⟨u,h3⟩,h4⟩:=rN h;rw[CM] at hv;rw[BV];by_cases q:k=p.1
  .have b:(k==p.1)=true:=by simp[q]
   rw[b] at hv;have hv':p.2=v:=Ao hv;have i:Value.isInt k e.key=true:=by rw[h1,q];simp[Value.isInt]
   rw[i];exact⟨u,by rw[<-hv',<-h3];rfl⟩
  .have b:(k==p.1)=false:=by simp[q]
   rw[b] at hv;have i:Value.isInt k e.key=false:=by rw[h1];simp[Value.isInt];exact fun z=>q z.symm
   rw[i];exact rP h4 hv
inductive tDGetM_ (K:W.Frag) (Q:VK) (x:V) (y:V) (H2:Hp):Prop
 |mk a Kb k v:x= .ref a->gH K a Kb=true->y= .int k->Kb.lookup k=some v->Q (.int v) H2->tDGetM_ K Q x y H2
def zR (K:W.Frag) (td ty:TE):TE:=fun σ H Q=>td σ H fun x H1=>ty σ H1 fun y H2=>tDGetM_ K Q x y H2
theorem rQ {X:Cx}{o i:O5}{pos:Pos}{td ty:TE} (ho:PE X o td) (hi:PE X i ty) (hs:gC i):PE X (.Subscript o i pos) (zR X.K td ty):=by
 intro J' s σ H Q I h;refine lx PySem.F.slot_dict_getitem.lookup hs (thn (ho J' s σ H _ I h) fun u s1 ⟨x,H1,I1,rx,q1⟩=>thn (hi J' s1 σ H1 _ I1 q1) fun iv s2 ⟨y,H2,I2,ry,a,Kb,k,v,ex,hd,ey,hv,q2⟩=> ?_);subst ex ey;obtain rfl:u=Value.ref a:=rx;obtain⟨t,rfl⟩:=ry;unfold gH at hd;split at hd
 .rename_i ob NW;have hg:=I2.kIn a ob NW;unfold rL at hd;split at hd
  .rename_i c es ep hc Kx Kp;rw[A9,A9] at hd;obtain⟨⟨d1,d2⟩,d3⟩:=hd;have hc':ob.cls= .type "dict":=by rw[hc,eq_of_beq d1]
   obtain⟨t',ht⟩:=rP d3 hv;have mp:s2.heap.MapOf (intKind X.prog X.w) a (findBy Value.isInt es):=⟨ob,es,ep,hg,⟨hc',Kx,Array.isEmpty_iff.mp d2⟩,Kp,fun e he=>rO d3 e (by simpa using he),fun _=>rfl⟩;refine⟨⟨ob,hg,hc'⟩,wpAny_getItem_of (knd:=intKind X.prog X.w) (k:=k) (by simp[intKind,Value.isInt]) mp (v:= .int v t') ?_ ⟨.int v,H2,I2.tok _,⟨_,rfl⟩,q2⟩⟩;show findBy Value.isInt es k=_;unfold findBy;obtain⟨l⟩:=es;simpa using ht
  .cases hd
 .cases hd
def zS (K:W.Frag) (H:Hp) (n:Nat) (xs:O4 V) (x:V) (es:Nat->Bool):Prop:=n<=8/\(∀(j:Nat) z,xs[j]? =some z->(∃a,z= .ref a)/\EqR K H n z x (es j))/\∀(i j:Nat) z,xs[i]? =some z->xs[j]? =some z->es i=es j
section
variable {X:Cx}{J':O4 (OZ×Obj)}{σ:St}{H:Hp}{s:OY}
open Classical in
noncomputable def fu (Kd:O4 MR) (es:Nat->Bool) (u:MR):Bool:=decide (∃j:Nat,Kd[j]? =some u/\es j=true)
end
def Ask (K:W.Frag) (H:Hp) (x y:V) (b:Bool):Prop:=∃(a1 a2:OZ) (xs ys:O4 V) (d:Nat) (es fs:Nat->Bool),x= .ref a1/\y= .ref a2/\SqL K H a1 xs/\SqL K H a2 ys/\d<=4/\
 (∀(j:Nat) x y,xs[j]? =some x->ys[j]? =some y->EqR K H d x y (es j))/\(∀(j:Nat) x y,xs[j]? =some x->ys[j]? =some y->es j=false->LtR K H d x y (fs j))/\b=SeqAt.lex es fs xs.length ys.length (min xs.length ys.length) 0
def gI (p q:Pt):Bool:=decide (p.1<q.1)||(decide (p.1=q.1)&&decide (p.2<q.2))
def fU:O4 Pt->O4 Pt->Bool
 |_,[]=>false
 |[],_::_=>true
 |x::xs,y::ys=>if x=y then fU xs ys else gI x y
section
variable {K:W.Frag}{H:Hp}
theorem zT {p q:Pt}{w:V} (h:Is H (pt p) v) (k:Is H (pt q) w):LtR K H 1 v w (gI p q):=by
 obtain⟨a,rfl,ha⟩:=jJ h;obtain⟨b,rfl,hb⟩:=jJ k;have e:=LtR.tuples (K:=K) (H:=H) (d:=0) (a:=a) (b:=b) (fun j=>if j=0 then decide (p.1=q.1) else decide (p.2=q.2)) (fun j=>if j=0 then decide (p.1<q.1) else decide (p.2<q.2)) (SqT.of ha) (SqT.of hb) (fun j x y hx hy=> ?_) (fun j x y hx hy _=> ?_)
 .have e2:SeqAt.lex (fun j=>if j=0 then decide (p.1=q.1) else decide (p.2=q.2)) (fun j=>if j=0 then decide (p.1<q.1) else decide (p.2<q.2)) 2 2 2 0=gI p q:=by
   unfold gI;by_cases e0:p.1=q.1
   .have n0:¬p.1<q.1:=by lia
    by_cases e1:p.2=q.2
    .have n1:¬p.2<q.2:=by lia
     simp[SeqAt.lex,e0,e1]
    .simp [SeqAt.lex,e0,e1]
   .simp [SeqAt.lex,e0]
  exact e2▸e
 .match j,hx,hy with
  |0,hx,hy=>cases hx;cases hy;exact EqR.int 0 _ _
  |1,hx,hy=>cases hx;cases hy;exact EqR.int 0 _ _
  |j+2,hx,_=>simp at hx
 .match j,hx,hy with
  |0,hx,hy=>cases hx;cases hy;exact LtR.int 0 _ _
  |1,hx,hy=>cases hx;cases hy;exact LtR.int 0 _ _
  |j+2,hx,_=>simp at hx
theorem rR (p q:O4 Pt):∀(k i:Nat),min p.length q.length-i=k->i<=min p.length q.length->SeqAt.lex (fun j=>decide (p.getD j (0,0)=q.getD j (0,0))) (fun j=>gI (p.getD j (0,0)) (q.getD j (0,0))) p.length q.length k i=fU (p.drop i) (q.drop i)
 |0,i,hk,hi=>by
  rw[SeqAt.lex];rcases(by lia:q.length=i\/(p.length=i/\i<q.length)) with e|⟨e,e2⟩
  .rw [CQ (l:=q) (by lia)];have:¬p.length<q.length:=by lia
   cases p.drop i<;>simp[fU,this]
  .rw [CQ (l:=p) (by lia),Ar e2];have:p.length<q.length:=by lia
   simp[fU,this]
 |k+1,i,hk,hi=>by
  have h1:i<p.length:=by lia
  have h2:i<q.length:=by lia
  have g1:p.getD i (0,0)=p[i]:=by simp[List.getD,h1]
  have g2:q.getD i (0,0)=q[i]:=by simp[List.getD,h2]
  rw[SeqAt.lex,Ar h1,Ar h2,fU,g1,g2];by_cases e:p[i]=q[i]
  .rw [A8 (Ag e),A8 e];exact rR p q k (i+1) (by lia) (by lia)
  .rw [A6 (by simpa using e),A6 e]
theorem zU {p:O4 Pt}{vs ws:O4 V} (h:Iss H (p.map pt) vs) (k:Iss H (q.map pt) ws):
  (∀(j:Nat) x y,vs[j]? =some x->ws[j]? =some y->EqR K H 1 x y (decide (p.getD j (0,0)=q.getD j (0,0))))/\(∀(j:Nat) x y,vs[j]? =some x->ws[j]? =some y->decide (p.getD j (0,0)=q.getD j (0,0))=false->LtR K H 1 x y (gI (p.getD j (0,0)) (q.getD j (0,0)))):=by
 have go:∀(j:Nat) x y,vs[j]? =some x->ws[j]? =some y->Is H (pt (p.getD j (0,0))) x/\Is H (pt (q.getD j (0,0))) y:=fun j x y hx hy=>by
  obtain⟨d,hd,h1⟩:=h.of_get hx;obtain⟨e,he,h2⟩:=k.of_get hy;rw[AF] at hd he;obtain⟨d',Ll,rfl⟩:=AC.mp hd;obtain⟨e',Ny,rfl⟩:=AC.mp he;rw[List.getD,Ll,List.getD,Ny];exact⟨h1,h2⟩
 exact⟨fun j x y hx hy=>zh (go j x y hx hy).1 (go j x y hx hy).2,fun j x y hx hy _=>zT (go j x y hx hy).1 (go j x y hx hy).2⟩
theorem zV {p:O4 Pt}{w:V} (h:Is H (pts p) v) (k:Is H (pts q) w):Ask K H v w (fU p q):=by
 obtain⟨a,vs,rfl,ha,h⟩:=iH h;obtain⟨b,ws,rfl,hb,k⟩:=iH k;obtain⟨e1,e2⟩:=zU (K:=K) h k;refine⟨a,b,vs,ws,1,_,_,rfl,rfl,SqL.of ha,SqL.of hb,by decide,e1,e2, ?_⟩;rw[h.length,k.length,A1,A1,rR p q _ 0 (Nat.sub_zero _) (AQ _),DR,DR]
end
end L2
set_option hygiene false
local macro_rules | `(tactic| walk_at "bare") => `(tactic| (unfold wpS; wp_delta; wp_delta; wp_delta; refine (show wpS _ _ _ _ _ _ _ from ?_)))
local macro_rules | `(tactic| walk_at "tw") => `(tactic| first
 |with_reducible refine Ab (zW (by assumption) ?_)
 |with_reducible refine Ab (zX (by assumption) (by assumption) (by assumption) ?_)
 |with_reducible refine Ab (zY (by assumption) (by assumption) (by assumption) ?_)
 |with_reducible refine Ab (zZ ?_)
 |rw[A8 (by assumption)]
 |rw[A6 (by assumption)]
 |exact Ay (by assumption)
 |dsimp only)
local macro_rules | `(tactic| walk_at "tw_all") => `(tactic| (
 repeat' (first|(rw[AA] at hs;obtain⟨_,_,hs⟩:=hs)|split at hs)
 all_goals
  cases hs;simp only[Option.map_some,Option.map_none,rS,rT,Array.map_push,Array.map_append,Array.map_extract,DS,C1,AG,Am] at hR
  repeat walk_at "tw"))
local macro_rules | `(tactic| walk_at "tw_hi") => `(tactic| (
 repeat' (first|(rw[AA] at hs;obtain⟨_,_,hs⟩:=hs)|split at hs)
 all_goals
  cases hs<;>(simp only[Option.map_some,Option.map_none,z0,z9,Array.map_push,Array.map_append,Array.map_extract,Array.map_reverse,DS,C1,AG,Am] at hR;repeat walk_at "tw")))
local macro_rules | `(tactic| walk_at "tw_asc") => `(tactic| (
 refine Ab (cW (γ:=Nat) (step:=lO c _ l) (fun m=>(none,m)) (fun _=>sst kd item _ pd g) (fun x m r hs R hR=> ?_) hz ?_)
 .obtain⟨q,Nz,rfl⟩:=AC.mp hs;refine Ab (iM hc Nz ?_);cases q<;>exact Ay hR))
local macro_rules | `(tactic| walk_at "tw_down") => `(tactic| (
 refine Ab (wpS_lift (Bz ⟨rfl, ?_⟩));obtain⟨t,h1,h2⟩:=AA.mp h;refine Ab (cW (γ:=Array Nat×Nat×Nat) (step:=lP c l) (fun t=>(none,t.2.1,t.2.2)) (fun t=>sst kd item t.1 pd g) (fun x t r hs R hR=> ?_) h1 ?_)
 .unfold lP at hs;obtain⟨q,Nz,hs⟩:=AA.mp hs;refine Ab (iM hc Nz ?_);cases q with
  |true=>
   dsimp only;rw[A8 rfl] at hs⊢;split at hs
   .rename_i z;cases hs
   .rename_i z;rw[A6 z];cases hs;exact Ay hR
  |false=>
   dsimp only;rw[A6 (by simp)] at hs⊢;obtain⟨r,hr1,hs⟩:=AA.mp hs;refine Ab (iM hc hr1 ?_);cases r<;>(cases hs<;>exact Ay hR)
 .dsimp only;split at h2
  .cases h2
  .rename_i z;rw[A6 z];refine Ab (Db ?_);obtain⟨k2,h3,h4⟩:=AC.mp h2;cases h4;have hz:=h3
   walk_at "tw_asc"
   exact Ay hq))
local macro_rules | `(tactic| walk_at "tw_push") => `(tactic| (
 unfold lQ at hs;refine Ab (wpS_get ?_);try dsimp only at hs⊢
 split at hs
 .rename_i u hu;rw[hu];try dsimp only
  obtain⟨t',ht,hs⟩:=AA.mp hs;cases hs;refine Ab (cW (γ:=Ts) (step:=lR c _) (fun _=>(none,())) (fun t=>sst kd item t.1 t.2.1 t.2.2) (fun x t r hs R hR=> ?_) (a:=0) ht ?_)
  .unfold lR at hs;refine Ab (wpS_get ?_);try dsimp only
   split at hs
   .rename_i v hv;rw[hv];try dsimp only
    split at hs
    .rename_i z;rw[A8 z];cases hs;exact Ay hR
    .rename_i z;cases hs
   .rename_i hv;rw[hv];cases hs;exact Ay hR
  .try dsimp only
   exact Ab (DX (Ab (DX (Ay hR))))
 .rename_i hu;rw[hu];cases hs;exact Ab (DX (Ay hR))))
set_option hygiene true
namespace L2
open PySem PyProof.Rows
variable {K2 KA a p p':Array Nat}{Kk base g i j k l n x:Nat}{Q:O7 Bool->SortSt->Prop}{b left:Bool}{vs:O4 MR}
def Dc:Bool->Keyed->Array Keyed->Nat->Nat->Nat->StateT SortSt Sem (O7 Nat):=sortPriv%PySem.Builtin.gallop
def Dd:Array Keyed->Array Keyed->StateT SortSt Sem (Array Keyed):=sortPriv%PySem.Builtin.mergeLo
def De:Array Keyed->Array Keyed->StateT SortSt Sem (Array Keyed):=sortPriv%PySem.Builtin.mergeHi
def Df:Nat->StateT SortSt Sem Unit:=sortPriv%PySem.Builtin.setMinGallop
def aE {γ:Type} (step:γ->O7 (Bool×γ)):Nat->γ->O7 γ
 |0,g=>some g
 |f+1,g=>(step g).bind fun r=>if r.1=true then some r.2 else aE step f r.2
section
variable {M:Model}{A:O3}{E:MR->OY->Prop}{s:OY}{σ:Type}
theorem cW {β γ:Type}{step:γ->O7 (Bool×γ)} (φ:γ->β) (τ:γ->σ) {f:Nat->β->StateT σ Sem (ForInStep β)}{Q:β->σ->Prop}
  (hs:∀x g r,step g=some r->∀R:ForInStep β->σ->Prop,R (if r.1=true then .done (φ r.2) else .yield (φ r.2)) (τ r.2)->wpS M A E s (f x (φ g)) R (τ g))
  {a b:Nat}{g g':γ} (h:aE step (b-a) g=some g') (hq:Q (φ g') (τ g')):wpS M A E s (forIn [a:b] (φ g) f) Q (τ g):=by
 rw[Std.Legacy.Range.forIn_eq_forIn_range'];have hsz:([a:b]:Std.Legacy.Range).size=b-a:=by simp[Std.Legacy.Range.size]
 show wpS M A E s (forIn (List.range' a ([a:b]:Std.Legacy.Range).size 1) (φ g) f) Q (τ g);rw[hsz];have go:∀(k:Nat) (l:O4 Nat) (g:γ),l.length=k->aE step k g=some g'->wpS M A E s (forIn l (φ g) f) Q (τ g):=by
  intro k;induction k with
  |zero=>
   intro l g hl h;cases l with
   |nil=>rw[List.forIn_nil];cases h;exact Ay hq
   |cons _ _=>simp at hl
  |succ k ih=>
   intro l g hl h;cases l with
   |nil=>simp at hl
   |cons x l=>
    rw[Ci];unfold aE at h;obtain⟨r,hr,h⟩:=AA.mp h;refine Ab (hs x g r hr _ ?_);by_cases hd:r.1=true
    .rw [A8 hd] at h⊢;cases h;exact Ay hq
    .rw [A6 hd] at h⊢;exact ih l r.2 (by simpa using hl) h
 exact go _ _ g (by simp) h
end
section
variable {prog:O0}{w:O2}{A:O3}{E:MR->OY->Prop}{s:OY}{item:Nat->Keyed}{c:Nat->Nat->O7 Bool}{kd:SortKind}
def cO (kd:SortKind) (prog:O0) (w:O2) (A:O3) (s:OY) (item:Nat->Keyed) (c:Nat->Nat->O7 Bool):Prop:=
 ∀i j b,c i j=some b->∀Q:Bool->OY->Prop,Q b s->wpAny (model prog w) A (keyLt' kd (item i).1 (item j).1) Q (fun _ _=>False) s
theorem jP (hc:cO kd prog w A s item c) {st:SortSt} (hk:kindOf st=kd) (h:c i j=some b) (hq:Q (some b) st):wpS (model prog w) A E s (lt' (item i) (item j)) Q st:=by
 rw[lt'_eq];refine Ab (wpS_get ?_);rw[hk];refine Ab (wpS_lift (CO (Bm (hc i j b h _ ⟨rfl,Ay hq⟩) (fun _ _ h=>h) fun _ _ hF=>hF.elim)))
theorem fw {st:SortSt}(h:K2[i]? =some x) {Q:Keyed->SortSt->Prop} (hq:Q (item x) st):wpS (model prog w) A E s (elem' (K2.map item) i) Q st:=by
 rw[elem'_eq,Array.getElem?_map,h];exact Ay hq
def eV (c:Nat->Nat->O7 Bool) (left:Bool) (key:Nat) (K2:Array Nat) (i:Nat):O7 Bool:=K2[i]?.bind fun x=>if left=true then c x key else(c key x).map (!·)
def gUp (b:Nat->O7 Bool) (m:Nat) (g:Nat×Nat):O7 (Bool×Nat×Nat):=if g.2>=m then some (true,g) else(b g.2).map fun y=>if y=true then(false,g.2,2*g.2+1) else(true,g)
def gDn (b:Nat->O7 Bool) (m:Nat) (g:Nat×Nat):O7 (Bool×Nat×Nat):=if g.2>=m then some (true,g) else(b g.2).map fun y=>if y=true then(true,g) else(false,g.2,2*g.2+1)
def iN (b:Nat->O7 Bool) (g:Nat×Nat):O7 (Bool×Nat×Nat):=
 if g.1>=g.2 then some (true,g) else(b (g.1+(g.2-g.1)/2)).map fun y=>if y=true then(false,g.1+(g.2-g.1)/2+1,g.2) else(false,g.1,g.1+(g.2-g.1)/2)
def gal (c:Nat->Nat->O7 Bool) (left:Bool) (key:Nat) (K2:Array Nat) (base n Kk:Nat):O7 Nat:=
 (eV c left key K2 (base+Kk)).bind fun right=>
  (if right=true then(aE (gUp (fun o=>eV c left key K2 (base+(Kk+o))) (n-Kk)) n (0,1)).map fun g=>(Kk+g.1+1,Kk+min g.2 (n-Kk))
   else(aE (gDn (fun o=>eV c left key K2 (base+(Kk-o))) (Kk+1)) n (0,1)).map fun g=>(Kk+1-min g.2 (Kk+1),Kk-g.1)).bind fun lh=>
   (aE (iN fun i=>eV c left key K2 (base+i)) n lh).map (·.2)
theorem iO (hc:cO kd prog w A s item c) {st:SortSt} (hk:kindOf st=kd) {key:Nat}(h:eV c left key K2 i=some b) {Q:Option Bool->SortSt->Prop} (hq:Q (some b) st):
  wpS (model prog w) A E s (do
   let x<-elem' (K2.map item) i
   if left=true then lt' x (item key) else do
    let y<-lt' (item key) x
    pure (y.map (!·))) Q st:=by
 obtain⟨x,hx,h⟩:=AA.mp h;refine Ab (fw hx ?_);by_cases hl:left=true
 .rw [A8 hl] at h⊢;exact jP hc hk h hq
 .rw [A6 hl] at h⊢;obtain⟨y,hy,rfl⟩:=AC.mp h;exact Ab (jP hc hk hy (Ay hq))
theorem lS (hc:cO kd prog w A s item c) {st:SortSt} (hk:kindOf st=kd) {key:Nat}(h:gal c left key K2 base n Kk=some k) {Q:O7 Nat->SortSt->Prop} (hq:Q (some k) st):
  wpS (model prog w) A E s (Dc left (item key) (K2.map item) base n Kk) Q st:=by
 walk_at "bare"
 dsimp only;obtain⟨right,hr,h⟩:=AA.mp h;obtain⟨lh,h1,h2⟩:=AA.mp h;obtain⟨lh2,h3,rfl⟩:=AC.mp h2;refine Ab (iO hc hk hr ?_);dsimp only;by_cases e:right=true
 .rw [A8 e] at h1⊢;obtain⟨g0,h0,rfl⟩:=AC.mp h1;refine Ab (cW (γ:=Nat×Nat) (step:=gUp (fun o=>eV c left key K2 (base+(Kk+o))) (n-Kk)) (fun g=>(none,g.1,g.2)) (fun _=>st) (fun x g r hs R hR=> ?_) (a:=0) (b:=n) (g:=(0,1)) (g':=g0) h0 ?_)
  .unfold gUp at hs;dsimp only;by_cases e:g.2>=n-Kk
   .rw [A8 e] at hs⊢;cases hs;exact Ay hR
   .rw [A6 e] at hs⊢;obtain⟨y,hy,rfl⟩:=AC.mp hs;refine Ab (iO hc hk hy ?_);cases y<;>exact Ay hR
  .dsimp only;refine Ab (cW (γ:=Nat×Nat) (step:=iN fun i=>eV c left key K2 (base+i)) (fun g=>(none,g.1,g.2)) (fun _=>st) (fun x g r hs R hR=> ?_) (a:=0) (b:=n) (g:=(Kk+g0.1+1,Kk+min g0.2 (n-Kk))) (g':=lh2) h3 (Ay hq));unfold iN at hs;dsimp only;by_cases e:g.1>=g.2
   .rw [A8 e] at hs⊢;cases hs;exact Ay hR
   .rw [A6 e] at hs⊢;obtain⟨y,hy,rfl⟩:=AC.mp hs;refine Ab (iO hc hk hy ?_);cases y<;>exact Ay hR
 .rw [A6 e] at h1⊢;obtain⟨g0,h0,rfl⟩:=AC.mp h1;refine Ab (cW (γ:=Nat×Nat) (step:=gDn (fun o=>eV c left key K2 (base+(Kk-o))) (Kk+1)) (fun g=>(none,g.1,g.2)) (fun _=>st) (fun x g r hs R hR=> ?_) (a:=0) (b:=n) (g:=(0,1)) (g':=g0) h0 ?_)
  .unfold gDn at hs;dsimp only;by_cases e:g.2>=Kk+1
   .rw [A8 e] at hs⊢;cases hs;exact Ay hR
   .rw [A6 e] at hs⊢;obtain⟨y,hy,rfl⟩:=AC.mp hs;refine Ab (iO hc hk hy ?_);cases y<;>exact Ay hR
  .dsimp only;refine Ab (cW (γ:=Nat×Nat) (step:=iN fun i=>eV c left key K2 (base+i)) (fun g=>(none,g.1,g.2)) (fun _=>st) (fun x g r hs R hR=> ?_) (a:=0) (b:=n) (g:=(Kk+1-min g0.2 (Kk+1),Kk-g0.1)) (g':=lh2) h3 (Ay hq));unfold iN at hs;dsimp only;by_cases e:g.1>=g.2
   .rw [A8 e] at hs⊢;cases hs;exact Ay hR
   .rw [A6 e] at hs⊢;obtain⟨y,hy,rfl⟩:=AC.mp hs;refine Ab (iO hc hk hy ?_);cases y<;>exact Ay hR
def lT (a b KA:Array Nat) (ia ib:Nat):Array Nat:=KA++a.extract ia a.size++b.extract ib b.size
def lU (a b KA:Array Nat) (ia ib:Nat):Array Nat:=KA++b.extract ib b.size++a.extract ia a.size
abbrev G1:=O7 (Array Nat)×Array Nat×Nat×Nat×Nat×Nat
abbrev G3:=(O7 (Array Nat)×Array Nat×Nat×Nat×Nat×Nat×Nat)×Nat
abbrev G0:=(O7 (Array Nat)×Array Nat×Nat×Nat×Nat)×Nat
def mLo (c:Nat->Nat->O7 Bool) (a b:Array Nat) (sg:Nat):O7 (Array Nat×Nat):=
 b[0]?.bind fun y=>
  if(1==b.size)=true then some (lT a b #[y] 0 1,sg)
  else if(0+1==a.size)=true then some (lU a b #[y] 0 1,sg)
  else none
abbrev stG (st:SortSt) (g:Nat):SortSt:=SortSt.mk' (kindOf st) (arrOf st) (pendingOf st) g (failedOf st)
theorem rS (a b KA:Array Nat) (ia ib:Nat):(lT a b KA ia ib).map item=KA.map item++(a.map item).extract ia (a.map item).size++(b.map item).extract ib (b.map item).size:=by
 unfold lT;simp
theorem rT (a b KA:Array Nat) (ia ib:Nat):(lU a b KA ia ib).map item=KA.map item++(b.map item).extract ib (b.map item).size++(a.map item).extract ia (a.map item).size:=by
 unfold lU;simp
theorem Dg {st:SortSt}{Q:PUnit->SortSt->Prop} (h:Q ⟨⟩ (stG st g)):wpS (model prog w) A E s (Df g) Q st:=by
 walk_at "bare"
 exact DX h
def zW {st:SortSt}(h:K2[i]? =some x) {Q:Keyed->SortSt->Prop} (hq:Q (item x) st):wpS (model prog w) A E s ((sortPriv%PySem.Builtin.elem) (K2.map item) i) Q st:=fw h hq
def zX (hc:cO kd prog w A s item c) {st:SortSt} (hk:kindOf st=kd) (h:c i j=some b) (hq:Q (some b) st):wpS (model prog w) A E s ((sortPriv%PySem.Builtin.lt) (item i) (item j)) Q st:=jP hc hk h hq
def zY (hc:cO kd prog w A s item c) {st:SortSt} (hk:kindOf st=kd) {key:Nat}(h:gal c left key K2 base n Kk=some k) {Q:O7 Nat->SortSt->Prop} (hq:Q (some k) st):
  wpS (model prog w) A E s ((sortPriv%PySem.Builtin.gallop) left (item key) (K2.map item) base n Kk) Q st:=lS hc hk h hq
def zZ {st:SortSt}{Q:PUnit->SortSt->Prop} (h:Q ⟨⟩ (stG st g)):wpS (model prog w) A E s ((sortPriv%PySem.Builtin.setMinGallop) g) Q st:=Dg h
set_option maxHeartbeats 4000000 in
theorem Dh (hc:cO kd prog w A s item c) {st:SortSt} (hk:kindOf st=kd) {b:Array Nat}(h:mLo c a b (gallopOf st)=some (KA,g)) {Q:Array Keyed->SortSt->Prop} (hq:Q (KA.map item) (stG st g)):
  wpS (model prog w) A E s (Dd (a.map item) (b.map item)) Q st:=by
 obtain⟨κ,ar,pd,g0,fl⟩:=st
 walk_at "bare"
 refine Ab (wpS_lift (Bz ⟨rfl, ?_⟩));unfold mLo at h;obtain⟨y,hy,h⟩:=AA.mp h;refine Ab (fw hy ?_);by_cases e1:(1==b.size)=true
 .rw [A8 e1] at h;cases h;rw[A8 (by simpa using e1)];refine Ay ?_;rw[rS] at hq;simpa using hq
 rw[A6 e1] at h;by_cases e2:(0+1==a.size)=true
 .rw [A8 e2] at h;cases h;rw[A6 (by simpa using e1),A8 (by simpa using e2)];refine Ay ?_;rw[rT] at hq;simpa using hq
 rw[A6 e2] at h;cases h
end
section
variable {prog:O0}{w:O2}{A:O3}{E:MR->OY->Prop}{s:OY}{item:Nat->Keyed}{c:Nat->Nat->O7 Bool}{kd:SortKind}
def lV (a b KA:Array Nat) (na nb:Nat):Array Nat:=a.extract 0 na++b.extract 0 nb++KA.reverse
def rV (a b KA:Array Nat) (na nb:Nat):Array Nat:=b.extract 0 nb++a.extract 0 na++KA.reverse
abbrev H1:=O7 (Array Nat)×Nat×Nat×Array Nat×Nat×Nat
abbrev H3:=(O7 (Array Nat)×Nat×Nat×Array Nat×Nat×Nat×Nat)×Nat
abbrev H0:=(O7 (Array Nat)×Nat×Nat×Array Nat×Nat)×Nat
def hi1 (c:Nat->Nat->O7 Bool) (a b:Array Nat) (mg:Nat) (g:H1):O7 (Bool×H1):=
 b[g.2.2.1-1]?.bind fun y=>a[g.2.1-1]?.bind fun x=>(c y x).bind fun q=>
  if q=true then
   if(g.2.1-1==0)=true then none
   else if g.2.2.2.2.1+1>=mg then some (true,none,g.2.1-1,g.2.2.1,g.2.2.2.1.push x,g.2.2.2.2.1+1,0)
   else some (false,none,g.2.1-1,g.2.2.1,g.2.2.2.1.push x,g.2.2.2.2.1+1,0)
  else
   if(g.2.2.1-1==1)=true then none
   else if g.2.2.2.2.2+1>=mg then some (true,none,g.2.1,g.2.2.1-1,g.2.2.2.1.push y,0,g.2.2.2.2.2+1)
   else some (false,none,g.2.1,g.2.2.1-1,g.2.2.2.1.push y,0,g.2.2.2.2.2+1)
def rW (c:Nat->Nat->O7 Bool) (a b KA:Array Nat) (na nb mg bc:Nat):O7 (Bool×H3):=
 b[nb-1]?.bind fun y=>(gal c false y a 0 na (na-1)).bind fun On=>
  if na-On>0 then
   if(On==0)=true then some (true,(some (lV a b (KA++(a.extract On na).reverse) On nb),On,nb,KA++(a.extract On na).reverse,mg,na-On,bc),mg)
   else none
  else none
def hi3 (c:Nat->Nat->O7 Bool) (a b:Array Nat) (g:H3):O7 (Bool×H3):=
 if g.1.2.2.2.2.1>1 then rW c a b g.1.2.2.2.1 g.1.2.1 g.1.2.2.1 (g.1.2.2.2.2.1-1) g.1.2.2.2.2.2.2
 else none
def hi0 (c:Nat->Nat->O7 Bool) (a b:Array Nat) (g:H0):O7 (Bool×H0):=
 (aE (hi1 c a b g.1.2.2.2.2) (a.size+b.size) (none,g.1.2.1,g.1.2.2.1,g.1.2.2.2.1,0,0)).bind fun t=>
  match t.1 with
  |some r=>some (true,(some r,t.2.1,t.2.2.1,t.2.2.2.1,g.1.2.2.2.2),g.2)
  |none=>(aE (hi3 c a b) (a.size+b.size) ((none,t.2.1,t.2.2.1,t.2.2.2.1,g.1.2.2.2.2+1,t.2.2.2.2.1,t.2.2.2.2.2),g.2)).bind fun u=>
   match u.1.1 with
   |some r=>some (true,(some r,u.1.2.1,u.1.2.2.1,u.1.2.2.2.1,u.1.2.2.2.2.1),u.2)
   |none=>none
def mHi (c:Nat->Nat->O7 Bool) (a b:Array Nat) (sg:Nat):O7 (Array Nat×Nat):=
 a[a.size-1]?.bind fun x=>
  if(a.size-1==0)=true then none
  else if(b.size==1)=true then none
  else(aE (hi0 c a b) (a.size+b.size) ((none,a.size-1,b.size, #[x],sg),sg)).bind fun t=>t.1.1.map fun r=>(r,t.2)
theorem z0 (a b KA:Array Nat) (na nb:Nat):(lV a b KA na nb).map item=(a.map item).extract 0 na++(b.map item).extract 0 nb++(KA.map item).reverse:=by
 unfold lV;simp
theorem z9 (a b KA:Array Nat) (na nb:Nat):(rV a b KA na nb).map item=(b.map item).extract 0 nb++(a.map item).extract 0 na++(KA.map item).reverse:=by
 unfold rV;simp
set_option maxHeartbeats 4000000 in
theorem Di (hc:cO kd prog w A s item c) {st:SortSt} (hk:kindOf st=kd) {b:Array Nat}(h:mHi c a b (gallopOf st)=some (KA,g)) {Q:Array Keyed->SortSt->Prop} (hq:Q (KA.map item) (stG st g)):
  wpS (model prog w) A E s (De (a.map item) (b.map item)) Q st:=by
 obtain⟨κ,ar,pd,g0,fl⟩:=st
 walk_at "bare"
 dsimp only;refine Ab (wpS_lift (Bz ⟨rfl, ?_⟩));unfold mHi at h;obtain⟨y,hy,h⟩:=AA.mp h;simp only[DS];refine Ab (fw hy ?_);have ey:(#[item y]:Array Keyed)=(#[y]:Array Nat).map item:=by simp
 simp only[ey];by_cases e1:(a.size-1==0)=true
 .rw [A8 e1] at h;cases h
 rw[A6 e1] at h⊢;by_cases e2:(b.size==1)=true
 .rw [A8 e2] at h;cases h
 rw[A6 e2] at h⊢;refine Ab (wpS_get ?_);obtain⟨t,h0,h⟩:=AA.mp h;obtain⟨r,hr,h⟩:=AC.mp h;cases h;refine Ab (cW (γ:=H0) (step:=hi0 c a b) (fun g=>(g.1.1.map (·.map item),g.1.2.1,g.1.2.2.1,g.1.2.2.2.1.map item,g.1.2.2.2.2)) (fun g=>SortSt.mk' κ ar pd g.2 fl) (fun x g r hs R hR=> ?_) (a:=0) (b:=a.size+b.size) (g:=((none,a.size-1,b.size, #[y],g0),g0)) (g':=t) h0 ?_)
 .unfold hi0 at hs;obtain⟨t1,h1,hs⟩:=AA.mp hs;dsimp only;refine Ab (cW (γ:=H1) (step:=hi1 c a b g.1.2.2.2.2) (fun g=>(g.1.map (·.map item),g.2.1,g.2.2.1,g.2.2.2.1.map item,g.2.2.2.2.1,g.2.2.2.2.2)) (fun _=>SortSt.mk' κ ar pd g.2 fl) (fun x u r hs R hR=> ?_) (a:=0) (b:=a.size+b.size) (g:=(none,g.1.2.1,g.1.2.2.1,g.1.2.2.2.1,0,0)) (g':=t1) h1 ?_)
  .unfold hi1 at hs;dsimp only;have hk2:kindOf (SortSt.mk' κ ar pd g.2 fl)=kd:=hk
   walk_at "tw_hi"
  .dsimp only;cases e:t1.1 with
   |some r=>
    rw[e] at hs;cases hs;exact Ay hR
   |none=>
    rw[e] at hs;obtain⟨t3,h3,hs⟩:=AA.mp hs;simp only[Option.map_none];refine Ab (wpS_lift (Bz ⟨rfl, ?_⟩));refine Ab (cW (γ:=H3) (step:=hi3 c a b) (fun g=>(g.1.1.map (·.map item),g.1.2.1,g.1.2.2.1,g.1.2.2.2.1.map item,g.1.2.2.2.2.1,g.1.2.2.2.2.2.1,g.1.2.2.2.2.2.2)) (fun g=>SortSt.mk' κ ar pd g.2 fl) (fun x u r hs R hR=> ?_) (a:=0) (b:=a.size+b.size) (g:=((none,t1.2.1,t1.2.2.1,t1.2.2.2.1,g.1.2.2.2.2+1,t1.2.2.2.2.1,t1.2.2.2.2.2),g.2)) (g':=t3) h3 ?_)
    .have hk2:∀g,kindOf (SortSt.mk' κ ar pd g fl)=kd:=fun _=>hk;unfold hi3 rW at hs;dsimp only;by_cases m:u.1.2.2.2.2.1>1
     .rw [A8 m] at hs⊢;have Oo:=hk2 (u.1.2.2.2.2.1-1)
      walk_at "tw_hi"
     .rw [A6 m] at hs;cases hs
    .dsimp only;cases e:t3.1.1 with
     |some r=>
      rw[e] at hs;cases hs;exact Ay hR
     |none=>
      rw[e] at hs;cases hs
 .dsimp only;rw[hr];exact Ay hq
end
def iP {γ:Type} (step:Nat->γ->O7 (Bool×γ)):Nat->Nat->γ->O7 γ
 |0,_,g=>some g
 |f+1,i,g=>(step i g).bind fun r=>if r.1=true then some r.2 else iP step f (i+1) r.2
section
variable {M:Model}{A:O3}{E:MR->OY->Prop}{s:OY}{σ:Type}
theorem Dj {β γ:Type}{step:Nat->γ->O7 (Bool×γ)} (φ:γ->β) (τ:γ->σ) {f:Nat->β->StateT σ Sem (ForInStep β)}{Q:β->σ->Prop}
  (hs:∀x g r,step x g=some r->∀R:ForInStep β->σ->Prop,R (if r.1=true then .done (φ r.2) else .yield (φ r.2)) (τ r.2)->wpS M A E s (f x (φ g)) R (τ g))
  {a b:Nat}{g g':γ} (h:iP step (b-a) a g=some g') (hq:Q (φ g') (τ g')):wpS M A E s (forIn [a:b] (φ g) f) Q (τ g):=by
 rw[Std.Legacy.Range.forIn_eq_forIn_range'];have hsz:([a:b]:Std.Legacy.Range).size=b-a:=by simp[Std.Legacy.Range.size]
 show wpS M A E s (forIn (List.range' a ([a:b]:Std.Legacy.Range).size 1) (φ g) f) Q (τ g);rw[hsz];have go:∀(k i:Nat) (g:γ),iP step k i g=some g'->wpS M A E s (forIn (List.range' i k 1) (φ g) f) Q (τ g):=by
  intro k;induction k with
  |zero=>
   intro i g h;cases h;rw[List.range'_zero,List.forIn_nil];exact Ay hq
  |succ k ih=>
   intro i g h;rw[List.range'_succ,Ci];unfold iP at h;obtain⟨r,hr,h⟩:=AA.mp h;refine Ab (hs i g r hr _ ?_);by_cases hd:r.1=true
   .rw [A8 hd] at h⊢;cases h;exact Ay hq
   .rw [A6 hd] at h⊢;exact ih (i+1) r.2 h
 exact go _ a g h
end
section
variable {prog:O0}{w:O2}{A:O3}{E:MR->OY->Prop}{s:OY}{item:Nat->Keyed}{c:Nat->Nat->O7 Bool}{kd:SortKind}{pd:Array (Nat×Nat×Nat)}{g:Nat}
abbrev sst (kd:SortKind) (item:Nat->Keyed) (p:Array Nat) (pd:Array (Nat×Nat×Nat)) (g:Nat):SortSt:=SortSt.mk' kd (p.map item) pd g none
def cAt (c:Nat->Nat->O7 Bool) (p:Array Nat) (i j:Nat):O7 Bool:=p[i]?.bind fun x=>p[j]?.bind fun y=>c x y
theorem iM (hc:cO kd prog w A s item c) (h:cAt c p i j=some b) (hq:Q (some b) (sst kd item p pd g)):wpS (model prog w) A E s (ltAt' i j) Q (sst kd item p pd g):=by
 obtain⟨x,hx,h⟩:=AA.mp h;obtain⟨y,hy,h⟩:=AA.mp h;rw[ltAt'_eq];refine Ab (wpS_get ?_);dsimp only;exact Ab (fw hx (Ab (fw hy (jP hc rfl h hq))))
def rev (p:Array Nat) (i j:Nat):Array Nat:=mirror p i j ((j-i)/2)
theorem Db {Q:Unit->SortSt->Prop} (h:Q () (sst kd item (rev p i j) pd g)):wpS (model prog w) A E s (reverseSlice' i j) Q (sst kd item p pd g):=by
 rw[reverseSlice'_eq];refine DX ?_;have e1:mirror (p.map item) i j ((j-i)/2)=(rev p i j).map item:=W.kas_swaps_map item (fun k=>i+k) (fun k=>j-1-k) _ p;show Q () (SortSt.mk' kd (mirror (p.map item) i j ((j-i)/2)) pd g none);rw[e1];exact h
theorem Dk {Q:Unit->SortSt->Prop} (h:Q () (sst kd item (bubble p k (k-l)) pd g)):wpS (model prog w) A E s (moveDown' k l) Q (sst kd item p pd g):=by
 rw[moveDown'_eq];refine DX ?_;have e1:bubble (p.map item) k (k-l)=(bubble p k (k-l)).map item:=W.kas_swaps_map item (fun i=>k-i) (fun i=>k-i-1) _ p;show Q () (SortSt.mk' kd (bubble (p.map item) k (k-l)) pd g none);rw[e1];exact h
def lO (c:Nat->Nat->O7 Bool) (p:Array Nat) (l:Nat) (m:Nat):O7 (Bool×Nat):=(cAt c p (l+m) (l+m-1)).map fun q=>if q=true then(true,m) else(false,m+1)
def lP (c:Nat->Nat->O7 Bool) (l:Nat) (t:Array Nat×Nat×Nat):O7 (Bool×Array Nat×Nat×Nat):=
 (cAt c t.1 (l+t.2.1) (l+t.2.1-1)).bind fun q=>
  if q=true then if t.2.2>0 then none else some (false,t.1,t.2.1+1,0)
  else(cAt c t.1 (l+t.2.1-1) (l+t.2.1)).bind fun r=>if r=true then some (true,t.1,t.2.1,t.2.2) else none
def rX (c:Nat->Nat->O7 Bool) (l n:Nat) (p:Array Nat) (m:Nat):O7 (Nat×Array Nat):=(aE (lO c (rev p l (l+m)) l) (n-m) m).map fun k=>(k,rev p l (l+m))
def rY (c:Nat->Nat->O7 Bool) (l n:Nat) (p:Array Nat) (m:Nat):O7 (Nat×Array Nat):=
 (aE (lP c l) (n-(m+1)) (p,m+1,0)).bind fun t=>if t.2.2>0 then none else rX c l n t.1 t.2.1
def lW (c:Nat->Nat->O7 Bool) (l n:Nat) (p:Array Nat):O7 (Nat×Array Nat):=
 (aE (lO c p l) (n-1) 1).bind fun m=>if(m==n)=true then some (m,p) else if m>1 then(cAt c p l (l+m-1)).bind fun q=>if q=true then some (m,p) else none else rY c l n p m
set_option maxHeartbeats 2000000 in
theorem Dl (hc:cO kd prog w A s item c) (h:lW c l n p=some (k,p')) {Q:O7 Nat->SortSt->Prop} (hq:Q (some k) (sst kd item p' pd g)):wpS (model prog w) A E s (countRun' l n) Q (sst kd item p pd g):=by
 walk_at "bare"
 dsimp only;unfold lW at h;obtain⟨m,h0,h⟩:=AA.mp h;have hz:=h0
 walk_at "tw_asc"
 dsimp only;by_cases e1:(m==n)=true
 .rw [A8 e1] at h⊢;cases h;exact Ay hq
 rw[A6 e1] at h⊢;by_cases e2:m>1
 .rw [A8 e2] at h⊢;obtain⟨q,Nz,h⟩:=AA.mp h;refine Ab (iM hc Nz ?_);dsimp only;by_cases e3:q=true
  .rw [A8 e3] at h⊢;cases h;exact Ay hq
  rw[A6 e3] at h;cases h
 .rw [A6 e2] at h⊢;unfold rY rX at h
  walk_at "tw_down"
def bPl (c:Nat->Nat->O7 Bool) (p:Array Nat) (l k:Nat) (t:Nat×Nat):O7 (Bool×Nat×Nat):=
 if t.1>=t.2 then some (true,t.1,t.2) else(cAt c p (l+k) (l+(t.1+t.2)/2)).bind fun q=>if q=true then some (false,t.1,(t.1+t.2)/2) else some (false,(t.1+t.2)/2+1,t.2)
def rZ (c:Nat->Nat->O7 Bool) (l k:Nat) (p:Array Nat):O7 (Bool×Array Nat):=(aE (bPl c p l k) k (0,k)).map fun t=>(false,bubble p (l+k) (l+k-(l+t.1)))
def r9 (c:Nat->Nat->O7 Bool) (l n ok:Nat) (p:Array Nat):O7 (Array Nat):=iP (rZ c l) (n-max ok 1) (max ok 1) p
theorem Dm (hc:cO kd prog w A s item c) {ok:Nat}(h:r9 c l n ok p=some p') {Q:Bool->SortSt->Prop} (hq:Q true (sst kd item p' pd g)):wpS (model prog w) A E s (binarySort' l n ok) Q (sst kd item p pd g):=by
 walk_at "bare"
 dsimp only;refine Ab (Dj (γ:=Array Nat) (step:=rZ c l) (fun _=>(none,())) (fun p=>sst kd item p pd g) (fun k p r hs R hR=> ?_) h (Ay hq));obtain⟨t,ht,rfl⟩:=AC.mp hs;refine Ab (cW (γ:=Nat×Nat) (step:=bPl c p l k) (fun t=>(none,t.1,t.2)) (fun _=>sst kd item p pd g) (fun x t r hs R hR=> ?_) (a:=0) (b:=k) ht ?_)
 .unfold bPl at hs;dsimp only;by_cases e:t.1>=t.2
  .rw [A8 e] at hs⊢;cases hs;exact Ay hR
  .rw [A6 e] at hs⊢;obtain⟨q,Nz,hs⟩:=AA.mp hs;refine Ab (iM hc Nz ?_);cases q<;>(cases hs;exact Ay hR)
 .exact Ab (Dk (Ay hR))
end
section
variable {prog:O0}{w:O2}{A:O3}{E:MR->OY->Prop}{s:OY}{item:Nat->Keyed}{c:Nat->Nat->O7 Bool}{kd:SortKind}
abbrev Pd:=Array (Nat×Nat×Nat)
def lay (p:Array Nat) (o:Nat) (xs:Array Nat):Array Nat:=xs.toList.zipIdx.foldl (fun a x=>a.setIfInBounds (o+x.2) x.1) p
theorem si (p:Array Nat) (o:Nat) (xs:Array Nat):(xs.map item).toList.zipIdx.foldl (fun a x=>a.setIfInBounds (o+x.2) x.1) (p.map item)=(lay p o xs).map item:=by
 have go:∀(l:O4 Nat) (k:Nat) (p:Array Nat),((l.map item).zipIdx k).foldl (fun a x=>a.setIfInBounds (o+x.2) x.1) (p.map item)=((l.zipIdx k).foldl (fun a x=>a.setIfInBounds (o+x.2) x.1) p).map item:=by
  intro l;induction l with
  |nil=>intro k p;rfl
  |cons x l ih=>
   intro k p;rw[AK,List.zipIdx_cons,List.zipIdx_cons,Cj,Cj];rw[show(p.map item).setIfInBounds (o+k) (item x)=(p.setIfInBounds (o+k) x).map item from(Array.map_setIfInBounds ..).symm];exact ih _ _
 rw[Array.toList_map];exact go _ 0 p
abbrev Ts:=Array Nat×Pd×Nat
def mAt (c:Nat->Nat->O7 Bool) (i:Nat) (t:Ts):O7 Ts:=
 t.2.1[i]?.bind fun u=>t.2.1[i+1]?.bind fun v=>t.1[v.1]?.bind fun y=>(gal c false y t.1 u.1 u.2.1 0).bind fun k=>
  if(u.2.1-k==0)=true then none
  else t.1[u.1+k+(u.2.1-k)-1]?.bind fun x=>(gal c true x t.1 v.1 v.2.1 (v.2.1-1)).bind fun nb=>
   if(nb==0)=true then none
   else if u.2.1-k<=nb then(mLo c (t.1.extract (u.1+k) v.1) (t.1.extract v.1 (v.1+nb)) t.2.2).bind fun r=>some (lay t.1 (u.1+k) r.1,(t.2.1.setIfInBounds i (u.1,u.2.1+v.2.1,u.2.2)).eraseIdxIfInBounds (i+1),r.2)
   else(mHi c (t.1.extract (u.1+k) v.1) (t.1.extract v.1 (v.1+nb)) t.2.2).bind fun r=>some (lay t.1 (u.1+k) r.1,(t.2.1.setIfInBounds i (u.1,u.2.1+v.2.1,u.2.2)).eraseIdxIfInBounds (i+1),r.2)
theorem Do {M:Model}{σ:Type}{x:σ}{Q:PUnit->σ->Prop}{st:σ} (h:Q ⟨⟩ x):wpS M A E s (set x:StateT σ Sem PUnit) Q st:=by
 unfold wpS;show wpAny M A (pure ((),x)) _ E s;exact A3 ⟨rfl,h⟩
set_option maxHeartbeats 2000000 in
theorem Dp (hc:cO kd prog w A s item c) {t t':Ts} (h:mAt c i t=some t') {Q:Bool->SortSt->Prop} (hq:Q true (sst kd item t'.1 t'.2.1 t'.2.2)):wpS (model prog w) A E s (mergeAt' i) Q (sst kd item t.1 t.2.1 t.2.2):=by
 walk_at "bare"
 dsimp only;refine Ab (wpS_get ?_);unfold mAt at h;obtain⟨⟨sa,na,pw⟩,hu,h⟩:=AA.mp h;obtain⟨⟨sb,nb,pw2⟩,hv,h⟩:=AA.mp h;obtain⟨y,hy,h⟩:=AA.mp h;obtain⟨k,hk,h⟩:=AA.mp h;dsimp only at*
 rw[hu,hv];dsimp only;refine Ab (Do ?_);refine Ab (fw hy ?_);refine Ab (lS hc rfl hk ?_);dsimp only;by_cases e1:(na-k==0)=true
 .rw [A8 e1] at h;cases h
 rw[A6 e1] at h⊢;obtain⟨x,hx,h⟩:=AA.mp h;obtain⟨nb2,hk2,h⟩:=AA.mp h;refine Ab (fw hx ?_);refine Ab (lS hc rfl hk2 ?_);dsimp only;by_cases e2:(nb2==0)=true
 .rw [A8 e2] at h;cases h
 rw[A6 e2] at h⊢;have x1:(t.1.map item).extract (sa+k) sb=(t.1.extract (sa+k) sb).map item:=by simp
 have x2:(t.1.map item).extract sb (sb+nb2)=(t.1.extract sb (sb+nb2)).map item:=by simp
 rw[x1,x2];by_cases e3:na-k<=nb2
 .rw [A8 e3] at h⊢;obtain⟨r,hr,h⟩:=AA.mp h;cases h;refine Ab (Dh hc rfl hr ?_);refine Ab (DX ?_);refine Ab (wpS_get (Ay ?_));dsimp only;rw[si];exact hq
 .rw [A6 e3] at h⊢;obtain⟨r,hr,h⟩:=AA.mp h;cases h;refine Ab (Di hc rfl hr ?_);refine Ab (DX ?_);refine Ab (wpS_get (Ay ?_));dsimp only;rw[si];exact hq
end
section
variable {prog:O0}{w:O2}{A:O3}{E:MR->OY->Prop}{s:OY}{item:Nat->Keyed}{c:Nat->Nat->O7 Bool}{kd:SortKind}
def lR (c:Nat->Nat->O7 Bool) (pw:Nat) (t:Ts):O7 (Bool×Ts):=
 match(if t.2.1.size>1 then t.2.1[t.2.1.size-2]? else none) with
 |some u=>if u.2.2<=pw then some (true,t) else none
 |none=>some (true,t)
def lQ (c:Nat->Nat->O7 Bool) (size lo n:Nat) (t:Ts):O7 (Bool×Nat×Ts):=
 match t.2.1.back? with
 |some u=>(aE (lR c (power' size (2*u.1+u.2.1) (2*u.1+u.2.1+u.2.1+n) size)) size t).bind fun t'=>
  some (false,lo+n,t'.1,(t'.2.1.modify (t'.2.1.size-1) fun x=>(x.1,x.2.1,power' size (2*u.1+u.2.1) (2*u.1+u.2.1+u.2.1+n) size)).push (lo,n,0),t'.2.2)
 |none=>some (false,lo+n,t.1,t.2.1.push (lo,n,0),t.2.2)
def lX (c:Nat->Nat->O7 Bool) (size:Nat) (g:Nat×Ts):O7 (Bool×Nat×Ts):=
 if g.1>=size then some (true,g) else(lW c g.1 (size-g.1) g.2.1).bind fun r=>
  if r.1<minRun' size size 0 then(r9 c g.1 (min (size-g.1) (minRun' size size 0)) r.1 r.2).bind fun p2=>lQ c size g.1 (min (size-g.1) (minRun' size size 0)) (p2,g.2.2)
  else lQ c size g.1 r.1 (r.2,g.2.2)
def lY (c:Nat->Nat->O7 Bool) (t:Ts):O7 (Bool×Ts):=
 if t.2.1.size<=1 then some (true,t)
 else(mAt c (if Option.any (fun x=>decide (x<t.2.1[t.2.1.size-2+1]?.elim 0 fun x=>x.2.1)) (if t.2.1.size-2>0 then Option.map (fun x=>x.2.1) t.2.1[t.2.1.size-2-1]? else none)=true then t.2.1.size-2-1 else t.2.1.size-2) t).bind fun t'=>some (false,t')
def eW (c:Nat->Nat->O7 Bool) (n:Nat):O7 (Array Nat):=
 (aE (lX c n) n (0,List.toArray (List.range n), #[],7)).bind fun g=>(aE (lY c) n g.2).map (·.1)
set_option maxHeartbeats 2000000 in
theorem Dq (hc:cO kd prog w A s item c) (h:eW c n=some p) {Q:Unit->SortSt->Prop} (hq:∀pd g,Q () (sst kd item p pd g)):wpS (model prog w) A E s sortRuns' Q (sst kd item (List.toArray (List.range n)) #[] 7):=by
 rw[sortRuns'_eq];try dsimp only
 refine Ab (wpS_get ?_);have hz:(arrOf (sst kd item (List.toArray (List.range n)) #[] 7)).size=n:=by
  show((List.toArray (List.range n)).map item).size=n;simp
 rw[hz];unfold eW at h;obtain⟨g,h1,h⟩:=AA.mp h;obtain⟨t,h2,rfl⟩:=AC.mp h;refine Ab (cW (γ:=Nat×Ts) (step:=lX c n) (fun g=>(none,g.1)) (fun g=>sst kd item g.2.1 g.2.2.1 g.2.2.2) (fun x g r hs R hR=> ?_) (a:=0) (b:=n) (g:=(0,List.toArray (List.range n), #[],7)) h1 ?_)
 .unfold lX at hs;try dsimp only
  by_cases e1:g.1>=n
  .rw [A8 e1] at hs⊢;cases hs;exact Ay hR
  rw[A6 e1] at hs⊢;obtain⟨k,hk,hs⟩:=AA.mp hs;refine Ab (Dl hc hk ?_);try dsimp only
  by_cases e2:k.1<minRun' n n 0
  .rw [A8 e2] at hs⊢;obtain⟨p2,hp,hs⟩:=AA.mp hs;refine Ab (wpS_lift (Bz ⟨rfl, ?_⟩));refine Ab (Dm hc hp ?_);simp only[B8,AG,Am]
   walk_at "tw_push"
  .rw [A6 e2] at hs⊢
   walk_at "tw_push"
 .try dsimp only
  refine Ab (cW (γ:=Ts) (step:=lY c) (fun _=>(none,())) (fun t=>sst kd item t.1 t.2.1 t.2.2) (fun x t r hs R hR=> ?_) (a:=0) (b:=n) (g:=g.2) h2 (Ay (hq _ _)));unfold lY at hs;refine Ab (wpS_get ?_);try dsimp only
  by_cases e1:t.2.1.size<=1
  .rw [A8 e1] at hs⊢;cases hs;exact Ay hR
  rw[A6 e1] at hs⊢;obtain⟨t',hm,hs⟩:=AA.mp hs;cases hs;exact Ab (Dp hc hm (Ay hR))
end
open PySem.Spec PySem.W
section
variable {prog:O0}{w:O2}{A:O3}{E:MR->OY->Prop}{s:OY}
theorem Dr {kd:SortKind}{a:OZ}{c:Nat->Nat->O7 Bool}{P:PySem.Fin->OY->Prop} (ho:s.heap.get? a=some (seqObj "list" vs.toArray n)) (h2:2<=vs.length) (hL:vs.length<=1000) (hp:p.size<=1000)
  (Mb:∀(R:SortKind->OY->Prop),R kd {s with heap:=bj s.heap a vs}->wpAny (model prog w) A (keyKind' vs.toArray) R E {s with heap:=bj s.heap a vs}) (hc:cO kd prog w A {s with heap:=bj s.heap a vs} (eT vs) c) (hs:eW c vs.length=some p)
  (h:P (.done (.ret .none)) {s with heap:=sortedHeap s.heap a vs (p.map fun i=>vs.getD i .none)}):wpAny (model prog w) A (Builtin.«list.sort» ⟨[.ref a],[]⟩) P E s:=by
 rw[list_sort_plain];have ha:a<s.heap.objs.size:=AM ho;refine A0 (listItems_at ho rfl ?_);refine A0 (Cm ho rfl ?_ (by rw[AE,Av];lia) (AQ _));obtain⟨e1,KN⟩:∃e1,(s.heap.update a (Obj.mapSeq fun _=>(#[]:Array MR))).get? a=some (seqObj "list" #[] e1):=⟨_,Cg ho (fun _=> #[])⟩;refine A0 (seqEpoch_at KN rfl ?_);refine A0 (wpAny_newTuple ?_ (by show vs.length<=_;rw[Av];lia));refine A0 (DJ ?_ (AQ _));refine Az ?_;have MC:(bj s.heap a vs).get? a=some (seqObj "list" #[] e1):=by
  rw[BB _ _ _ (by rw[C5,BA];exact AT (Ak ha)),BB _ _ _ (by rw[BA];exact AT ha)];exact KN
 show wpAny (model prog w) A _ P E {s with heap:=bj s.heap a vs};dsimp only;have Nf:¬vs.toArray.size<2:=by rw[AE];lia
 rw[A6 Nf,A6 Nf];refine A0 (Mb _ ?_);have run:=Dq (E:=E) hc hs (Q:=fun _ Km=>arrOf Km=p.map (eT vs)/\failedOf Km=none) fun pd g=>⟨rfl,rfl⟩;have est:sst kd (eT vs) (List.toArray (List.range vs.length)) #[] 7=SortSt.mk' kd (vs.toArray.zip vs.toArray) #[] 7 none:=by
  show SortSt.mk' kd ((List.toArray (List.range vs.length)).map (eT vs)) #[] 7 none=_;rw[zL]
 rw[est] at run;refine A0 (Bm run ?_ fun _ _ e=>e);rintro⟨⟨⟩,Km⟩ s' ⟨rfl,har,hf⟩;dsimp only at har hf⊢;have eo:(arrOf Km).map (·.2)=p.map fun i=>vs.getD i .none:=by
  rw[har,Array.map_map];rfl
 rw[eo];refine A0 (seqEpoch_at MC rfl ?_);refine A0 (Cm MC rfl ?_ (AQ _) (by rw[DS,Av];lia));rw[hf];simp only[Cr,AG,Am];exact A3 h
theorem Ds {kd:SortKind}{l:OZ}{c:Nat->Nat->O7 Bool}{Q:MR->OY->Prop} (hl:s.heap.IsList l vs.toArray) (h2:2<=vs.length) (hL:vs.length<=1000) (hp:p.size<=1000)
  (Mb:∀(R:SortKind->OY->Prop) (E:MR->OY->Prop),R kd {s with heap:=iL s.heap vs}->wpAny (model prog w) A.in1.in1 (keyKind' vs.toArray) R E {s with heap:=iL s.heap vs}) (hc:cO kd prog w A.in1.in1 {s with heap:=iL s.heap vs} (eT vs) c) (hs:eW c vs.length=some p)
  (h:Q (.ref (s.heap.objs.size+1)) {s with heap:=sortedAll s.heap vs (p.map fun i=>vs.getD i .none)}):wpAny (model prog w) A (call (.builtin "sorted") [.ref l]) Q E s:=by
 refine Calls.call_function_entry kind_sorted plain_sorted entry_sorted (args_sorted1 _) ?_;unfold Builtin.«sorted»;refine A0 (m:=checkCount "sorted" 1 1 _) (A3 ?_);refine A0 (collect_list hl ?_ (by rw[Av];lia));refine A0 (DJ ?_ (by rw[Av];lia));have hsz:((s.heap.push (seqObj "list" #[] 0)).update s.heap.objs.size (Obj.mapSeq (· ++vs.toArray))).objs.size=s.heap.objs.size+1:=by
  rw[BA,C5]
 have Oa:(((s.heap.push (seqObj "list" #[] 0)).update s.heap.objs.size (Obj.mapSeq (· ++vs.toArray))).push (seqObj "list" vs.toArray 0)).get? (s.heap.objs.size+1)=some (seqObj "list" vs.toArray 0):=by
  rw[<-hsz];exact AI _ rfl
 show wpAny _ _ _ _ _ {s with heap:=((s.heap.push (seqObj "list" #[] 0)).update s.heap.objs.size (Obj.mapSeq (· ++vs.toArray))).push (seqObj "list" vs.toArray 0)};rw[hsz];refine A0 (Az (Ai slot_list_sort ⟨_,Oa,rfl⟩ entry_list_sort (Dr (s:={s with heap:=((s.heap.push (seqObj "list" #[] 0)).update s.heap.objs.size (Obj.mapSeq (· ++vs.toArray))).push (seqObj "list" vs.toArray 0)}) Oa h2 hL hp (fun R=>Mb R _) hc hs ⟨_,rfl, ?_⟩) (args_list_sort _)));exact A3 ⟨_,rfl,h⟩
end
inductive rSorted (K:W.Frag) (vs:List V) (H:Hp) (Q:VK):Prop
 |mk (l:Addr) (rs:List V) (c:Nat->Nat->Option Bool) (p:Array Nat):vs=[.ref l]->SqL K H l rs->2<=rs.length->rs.length<=1000->p.size<=1000->((∀r∈rs,∃a ys,r= .ref a/\SqL K H a ys))->((∀i j b,c i j=some b->∃x y,rs[i]? =some x/\rs[j]? =some y/\Ask K H x y b))->eW c rs.length=some p->((∀i∈p.toList,i<rs.length))->(∀q,H q=none->Q (.ref q) (upd H q (.lst (p.toList.map fun i=>rs.getD i .non))))->rSorted K vs H Q
section
variable {X:Cx}
theorem Dt (hr:Room k X.A):bL X (.builtin "sorted") (rSorted X.K):=by
 intro J' s σ H xs us Q I r h;obtain⟨l,rs,c,p,rfl,hq,h2,hL,Op,hty,Oq,hs,L7,q⟩:=h;obtain⟨u,rfl,rx⟩:=cB r;cases rx;obtain⟨Kd,r',pl,hz⟩:=I.list hq;have ln:=r'.length;have hu:=hr.un;have I2:Inv X J' σ H {s with heap:=iL s.heap Kd}:=I.kept (t':=s.toks) fun b o e=>zM e;refine Ds (kd:=oneType') (vs:=Kd) (c:=c) (p:=p) pl.isList (by lia) (by lia) Op (fun R E hR=>kas_kind (T:= .type "list") (by lia) (fun v hv=> ?_) rfl rfl hR) (fun i j b hb Q' hq'=> ?_) (by rw[<-ln];exact hs) ?_
 .obtain⟨i,hi,rfl⟩:=CI.mp hv;have Lq:i<rs.length:=by lia
  obtain⟨a,ys,e1,hy⟩:=hty rs[i] (D6 Lq);obtain⟨u,KR,ru⟩:=r'.get (A2 Lq);rw[A2 hi] at KR;rw[e1] at ru;obtain rfl:u=Value.ref a:=ru;rw[Ao KR];obtain⟨js,r2,p2,z2⟩:=I2.list hy;obtain⟨o,ho,hc,_⟩:=p2.isList;exact hc▸(Looks.ld ho).andThen .now
 .obtain⟨x,y,hx,hy,a1,a2,xs,ys,d,es,fs,rfl,rfl,h1,h2,hd,he,hf,rfl⟩:=Oq i j b hb;obtain⟨u,KR,ru⟩:=r'.get hx;obtain⟨v,Nh,rv⟩:=r'.get hy;obtain rfl:u=Value.ref a1:=ru;obtain rfl:v=Value.ref a2:=rv;have g1:(eT Kd i).1= .ref a1:=by show Kd.getD i .none=_;rw[List.getD,KR];rfl
  have g2:(eT Kd j).1= .ref a2:=by show Kd.getD j .none=_;rw[List.getD,Nh];rfl
  rw[g1,g2];exact LtR.key I2 h1 h2 he hf (by rw[b9,b9];lia) hq'
 .obtain⟨e,he⟩:=sortedAll_at s.heap Kd (p.map fun i=>Kd.getD i .none);have en:(p.map fun i=>Kd.getD i .none)=List.toArray (p.toList.map fun i=>Kd.getD i .none):=by
   apply Array.toList_inj.mp;simp
  rw[en] at he⊢;refine⟨.ref (s.heap.objs.size+1),_,I.laid (t':=s.toks) (fun _ _=>sortedAll_old) (DB _) (show aI X.prog X.w _ _ _ (.lst (p.toList.map fun i=>rs.getD i .non)) from⟨?_,_,e,lN r' p.toList L7,he⟩),rfl,q _ (I.hok.fresh (DB _))⟩;rw[A1,BC,Av];lia
end
section
variable {X:Cx}
def sj (K:W.Frag):O4 V->Hp->VK->Prop:=fun vs H Q=>(∃(l:OZ) (rs:O4 V),vs=[.ref l]/\SqL K H l rs/\rs.length<2/\∀q,H q=none->Q (.ref q) (upd H q (.lst rs)))\/rSorted K vs H Q
theorem lZ (hr:Room k X.A):bL X (.builtin "sorted") (sj X.K):=by
 intro J' s σ H xs us Q I r h;rcases h with h|h
 .obtain⟨l,rs,rfl,hq,h2,q⟩:=h;obtain⟨u,rfl,rx⟩:=cB r;cases rx;obtain⟨Kd,r',pl,hz⟩:=I.list hq;have ln:=r'.length;refine zN (vs:=Kd) pl.isList (by lia) ?_;obtain⟨e,he⟩:=sortedAll_at s.heap Kd Kd.toArray;exact⟨.ref (s.heap.objs.size+1),_,I.laid (t':=s.toks) (fun _ _=>sortedAll_old) (DB _) (show aI X.prog X.w _ _ _ (.lst rs) from⟨hz,Kd,e,r',he⟩),rfl,q _ (I.hok.fresh (DB _))⟩
 .exact Dt hr J' s σ H xs us Q I r h
end
end L2
namespace L2
open PySem PySem.Spec PyProof.Rows PyProof
end L2
namespace L2
open PySem PySem.Spec PyProof.Rows PySem.W
variable {i j m n:Nat}{p:Array Nat}{xss:O4 (O4 Int)}
def aW (c:Nat->Nat->Bool) {α:Type}:KasT α->α
 | .ret a=>a
 | .ask i j k=>aW c (k (c i j))
theorem gJ {c:Nat->Nat->Bool}{α β:Type}{f:α->KasT β}:∀(t:KasT α),aW c (t.bind f)=aW c (f (aW c t))
 | .ret _=>rfl
 | .ask i j k=>gJ (k (c i j))
structure Ordr (c:Nat->Nat->Bool):Prop where
 asym:∀a b,c a b=true->c b a=false
 tr:∀a b d,c b a=false->c d b=false->c d a=false
section
variable {c:Nat->Nat->Bool}
abbrev at0 (p:Array Nat) (i:Nat):Nat:=p.getD i 0
def Up (c:Nat->Nat->Bool) (p:Array Nat) (m:Nat):Prop:=∀i j,i<j->j<m->c (at0 p j) (at0 p i)=false
def Dn (c:Nat->Nat->Bool) (p:Array Nat) (m:Nat):Prop:=∀i j,i<j->j<m->c (at0 p i) (at0 p j)=false
theorem Up.more (O:Ordr c) (h:Up c p m) (hm:0<m) (e:c (at0 p m) (at0 p (m-1))=false):Up c p (m+1):=by
 intro i j LS hj;by_cases hjm:j<m
 .exact h i j LS hjm
 .obtain rfl:j=m:=by lia
  by_cases hi:i=j-1
  .subst hi;exact e
  .exact O.tr _ _ _ (h i (j-1) (by lia) (by lia)) e
theorem Dn.more (O:Ordr c) (h:Dn c p m) (hm:0<m) (e:c (at0 p (m-1)) (at0 p m)=false):Dn c p (m+1):=by
 intro i j LS hj;by_cases hjm:j<m
 .exact h i j LS hjm
 .obtain rfl:j=m:=by lia
  by_cases hi:i=j-1
  .subst hi;exact e
  .exact O.tr _ _ _ e (h i (j-1) (by lia) (by lia))
theorem l6 (O:Ordr c) {p:Array Nat}:∀(f m:Nat),0<m->Up c p m->m<=aW c (kas_asc p f m)/\aW c (kas_asc p f m)<=m+f/\Up c p (aW c (kas_asc p f m))/\(aW c (kas_asc p f m)<m+f->c (at0 p (aW c (kas_asc p f m))) (at0 p (aW c (kas_asc p f m)-1))=true)
 |0,m,hm,h=>⟨AB _,AB _,h,fun z=>absurd z (C6 _)⟩
 |f+1,m,hm,h=>by
  unfold kas_asc aW;cases e:c (p.getD m 0) (p.getD (m-1) 0) with
  |true=>
   dsimp only;rw[A8 rfl];exact⟨AB _,by show m<=_;lia,h,fun _=>e⟩
  |false=>
   dsimp only;rw[A6 (by decide)];obtain⟨h1,h2,h3,h4⟩:=l6 O f (m+1) (by lia) (h.more O hm e);exact⟨by lia,by lia,h3,fun z=>h4 (by lia)⟩
theorem dY (hj:j<=p.size) (k:Nat):at0 (kas_rev p i j) k=if i<=k/\k<j then at0 p (i+j-1-k) else at0 p k:=by
 have h:=getElem?_mirror_all (xs:=p) (i:=i) hj k;have e:∀q:Array Nat,∀k,at0 q k=(q[k]?).getD 0:=fun q k=>by simp[at0,Array.getD];split<;>simp[*]
 rw[e,e,e];unfold kas_rev;rw[h];split<;>rfl
def fV (p:Array Nat) (i j:Nat):(kas_rev p i j).size=p.size:=mirror_size _ _ _ _
theorem Dn.rev_all (h:Dn c p m) (hm:m<=p.size):Up c (kas_rev p 0 m) m:=by
 intro i j LS hj;rw[dY hm,dY hm,A8 ⟨by lia,hj⟩,A8 ⟨by lia,by lia⟩];exact h _ _ (by lia) (by lia)
theorem Up.rev_all (h:Up c p m) (hm:m<=p.size):Dn c (kas_rev p 0 m) m:=by
 intro i j LS hj;rw[dY hm,dY hm,A8 ⟨by lia,by lia⟩,A8 ⟨by lia,hj⟩];exact h _ _ (by lia) (by lia)
theorem Dn.rev_blk {q:Nat} (h:Dn c p m) (hm:m<=p.size) (hq:q+1<=m) (hb:∀i j,m-(q+1)<=i->i<m->m-(q+1)<=j->j<m->c (at0 p i) (at0 p j)=false):Dn c (kas_rev p (m-(q+1)) m) m:=by
 intro i j LS hj;rw[dY hm,dY hm];by_cases h1:m-(q+1)<=i
 .rw [A8 ⟨h1,by lia⟩,A8 ⟨by lia,hj⟩];exact hb _ _ (by lia) (by lia) (by lia) (by lia)
 .rw [A6 (by lia)];by_cases h2:m-(q+1)<=j
  .rw [A8 ⟨h2,hj⟩];exact h _ _ (by lia) (by lia)
  .rw [A6 (by lia)];exact h _ _ LS hj
def Blk (c:Nat->Nat->Bool) (p:Array Nat) (m q:Nat):Prop:=q+1<=m/\∀i j,m-(q+1)<=i->i<m->m-(q+1)<=j->j<m->c (at0 p i) (at0 p j)=false
theorem jQ (O:Ordr c):∀(f:Nat) (p:Array Nat) (m q:Nat),m+f<=p.size->0<m->Dn c p m->Blk c p m q->∀r,r=aW c (kas_desc f p m q)->r.1.size=p.size/\m<=r.2.1/\r.2.1<=m+f/\Dn c r.1 r.2.1/\Blk c r.1 r.2.1 r.2.2
 |0,p,m,q,_,_,hd,hb,r,e=>by
  subst e;exact⟨rfl,AB _,AB _,hd,hb⟩
 |f+1,p,m,q,hs,hm,hd,hb,r,e=>by
  unfold kas_desc aW at e;cases e1:c (p.getD m 0) (p.getD (m-1) 0) with
  |true=>
   rw[e1] at e;dsimp only at e;rw[A8 rfl] at e;have e2:=O.asym _ _ e1;by_cases hq:q>0
   .rw [A8 hq] at e;have Lw:=hd.rev_blk (by lia) hb.1 hb.2;have at_m:at0 (kas_rev p (m-(q+1)) m) m=at0 p m:=by rw[dY (by lia),A6 (by lia)]
    have at_m1:at0 (kas_rev p (m-(q+1)) m) (m-1)=at0 p (m-(q+1)+m-1-(m-1)):=by rw[dY (by lia),A8 ⟨by have:=hb.1;lia,by lia⟩]
    have e3:c (at0 (kas_rev p (m-(q+1)) m) (m-1)) (at0 (kas_rev p (m-(q+1)) m) m)=false:=by
     rw[at_m,at_m1];have b1:=hb.1;exact O.tr _ _ _ e2 (hb.2 _ (m-1) (by lia) (by lia) (by lia) (by lia))
    have hd3:=Lw.more O hm e3;have hb3:Blk c (kas_rev p (m-(q+1)) m) (m+1) 0:=⟨by lia,fun i j h1 h2 h3 h4=>by
     obtain rfl:i=m:=by lia
     obtain rfl:j=i:=by lia
     cases h:c (at0 (kas_rev p (j-(q+1)) j) j) (at0 (kas_rev p (j-(q+1)) j) j) with
     |false=>rfl
     |true=>have:=O.asym _ _ h;rw[h] at this;cases this⟩
    obtain⟨r1,r2,r3,r4,r5⟩:=jQ O f _ (m+1) 0 (by rw[fV];lia) (by lia) hd3 hb3 r e;exact⟨by rw[r1,fV],by lia,by lia,r4,r5⟩
   .rw [A6 hq] at e;have hd3:=hd.more O hm e2;have hb3:Blk c p (m+1) 0:=⟨by lia,fun i j h1 h2 h3 h4=>by
     obtain rfl:i=m:=by lia
     obtain rfl:j=i:=by lia
     cases h:c (at0 p j) (at0 p j) with
     |false=>rfl
     |true=>have:=O.asym _ _ h;rw[h] at this;cases this⟩
    obtain⟨r1,r2,r3,r4,r5⟩:=jQ O f _ (m+1) 0 (by lia) (by lia) hd3 hb3 r e;exact⟨r1,by lia,by lia,r4,r5⟩
  |false=>
   rw[e1] at e;dsimp only at e;rw[A6 (by decide)] at e;unfold aW at e;cases e2:c (p.getD (m-1) 0) (p.getD m 0) with
   |true=>
    rw[e2] at e;dsimp only at e;rw[A8 rfl] at e;subst e;exact⟨rfl,AB _,by show m<=_;lia,hd,hb⟩
   |false=>
    rw[e2] at e;dsimp only at e;rw[A6 (by decide)] at e;have hd3:=hd.more O hm e2;have b1:=hb.1;have hb3:Blk c p (m+1) (q+1):=⟨by lia,fun i j h1 h2 h3 h4=>by
     by_cases hi:i=m
     .by_cases hj:j=m
      .subst hi;subst hj;cases h:c (at0 p j) (at0 p j) with
       |false=>rfl
       |true=>have:=O.asym _ _ h;rw[h] at this;cases this
      .subst hi;exact O.tr _ _ _ (hb.2 _ _ (by lia) (by lia) (by lia) (by lia)) e1
     .by_cases hj:j=m
      .subst hj;exact O.tr _ _ _ e2 (hb.2 _ _ (by lia) (by lia) (by lia) (by lia))
      .exact hb.2 _ _ (by lia) (by lia) (by lia) (by lia)⟩
    obtain⟨r1,r2,r3,r4,r5⟩:=jQ O f _ (m+1) (q+1) (by lia) (by lia) hd3 hb3 r e;exact⟨r1,by lia,by lia,r4,r5⟩
theorem sk (O:Ordr c) (hn:n<=p.size) (hm:m<=n) (h0:0<m) (hd:Dn c p m):∀r,r=aW c (kas_tail3 m n p)->r.2.size=p.size/\0<r.1/\r.1<=n/\Up c r.2 r.1:=by
 intro r e;unfold kas_tail3 at e;rw[gJ] at e;subst e;obtain⟨h1,h2,h3,_⟩:=l6 O (n-m) m h0 (hd.rev_all (by lia));exact⟨fV _ _ _,by show 0<aW c _;lia,by show aW c _<=n;lia,h3⟩
theorem sr (O:Ordr c) (hn:n<=p.size) (hm:m<n) (h0:0<m) (hd:Dn c p m) (e:c (at0 p m) (at0 p (m-1))=true):∀r,r=aW c (kas_descPart m n p)->r.2.size=p.size/\0<r.1/\r.1<=n/\Up c r.2 r.1:=by
 intro r er;unfold kas_descPart at er;rw[gJ] at er;have hd1:=hd.more O h0 (O.asym _ _ e);have hb1:Blk c p (m+1) 0:=⟨by lia,fun i j h1 h2 h3 h4=>by
  obtain rfl:i=m:=by lia
  obtain rfl:j=i:=by lia
  cases h:c (at0 p j) (at0 p j) with
  |false=>rfl
  |true=>have:=O.asym _ _ h;rw[h] at this;cases this⟩
 obtain⟨r1,r2,r3,r4,r5⟩:=jQ O (n-(m+1)) p (m+1) 0 (by lia) (by lia) hd1 hb1 _ rfl;generalize aW c (kas_desc (n-(m+1)) p (m+1) 0)=d at*
 split at er
 .obtain⟨t1,t2,t3,t4⟩:=sk O (p:=kas_rev d.1 (d.2.1-(d.2.2+1)) d.2.1) (m:=d.2.1) (n:=n) (by rw[fV];lia) (by lia) (by lia) (r4.rev_blk (by lia) r5.1 r5.2) r er;exact⟨by rw[t1,fV,r1],t2,t3,t4⟩
 .obtain⟨t1,t2,t3,t4⟩:=sk O (p:=d.1) (m:=d.2.1) (n:=n) (by lia) (by lia) (by lia) r4 r er;exact⟨by rw[t1,r1],t2,t3,t4⟩
theorem Du (O:Ordr c) (hn:n<=p.size) (h0:0<n):∀r,r=aW c (kas_count n p)->r.2.size=p.size/\0<r.1/\r.1<=n/\Up c r.2 r.1:=by
 intro r er;unfold kas_count at er;rw[gJ] at er;obtain⟨h1,h2,h3,h4⟩:=l6 O (p:=p) (n-1) 1 (by decide) (fun i j a b=>absurd b (by lia));generalize aW c (kas_asc p (n-1) 1)=m at*
 by_cases hm:m=n
 .subst hm;rw[A8 (by simp)] at er;subst er;exact⟨rfl,h0,AB _,h3⟩
 .rw [A6 (by simp[hm])] at er;have st:=h4 (by lia);by_cases h5:m>1
  .rw [A8 h5] at er;unfold aW at er;cases e1:c (p.getD 0 0) (p.getD (m-1) 0) with
   |true=>
    rw[e1] at er;dsimp only at er;rw[A8 rfl] at er;subst er;exact⟨rfl,by show 0<m;lia,by show m<=n;lia,h3⟩
   |false=>
    rw[e1] at er;dsimp only at er;rw[A6 (by decide)] at er;have hd:=h3.rev_all (by lia:m<=p.size);obtain⟨t1,t2,t3,t4⟩:=sr O (p:=kas_rev p 0 m) (m:=m) (n:=n) (by rw[fV];exact hn) (by lia) (by lia) hd (by
     rw[dY (by lia),dY (by lia),A6 (by lia),A8 ⟨by lia,by lia⟩,show 0+m-1-(m-1)=0 by lia];cases h:c (at0 p m) (at0 p 0) with
     |true=>rfl
     |false=>have:=O.tr _ _ _ e1 h;rw[st] at this;cases this) r er
    exact⟨by rw[t1,fV],t2,t3,t4⟩
  .rw [A6 h5] at er;obtain rfl:m=1:=by lia
   exact sr O hn (by lia) (by decide) (fun i j a b=>absurd b (by lia)) st r er
theorem l' (O:Ordr c) {p:Array Nat}{k:Nat} (hu:Up c p k):∀(f l r:Nat),r-l<=f->l<=r->r<=k->(∀i,i<l->c (at0 p k) (at0 p i)=false)->(∀i,r<=i->i<k->c (at0 p k) (at0 p i)=true)->
  aW c (kas_place p k f l r)<=k/\(∀i,i<aW c (kas_place p k f l r)->c (at0 p k) (at0 p i)=false)/\(∀i,aW c (kas_place p k f l r)<=i->i<k->c (at0 p k) (at0 p i)=true)
 |0,l,r,hf,hl,hr,h1,h2=>by
  obtain rfl:l=r:=by lia
  exact⟨hr,h1,h2⟩
 |f+1,l,r,hf,hl,hr,h1,h2=>by
  unfold kas_place;by_cases h:l>=r
  .rw [A8 h];obtain rfl:l=r:=by lia
   exact⟨hr,h1,h2⟩
  .rw [A6 h];unfold aW;cases e:c (p.getD k 0) (p.getD ((l+r)/2) 0) with
   |true=>
    dsimp only;rw[A8 rfl];refine l' O hu f l ((l+r)/2) (by lia) (by lia) (by lia) h1 fun i a b=> ?_;by_cases hi:i=(l+r)/2
    .subst hi;exact e
    .cases q:c (at0 p k) (at0 p i) with
     |true=>rfl
     |false=>have:=O.tr _ _ _ (hu ((l+r)/2) i (by lia) b) q;rw[e] at this;cases this
   |false=>
    dsimp only;rw[A6 (by decide)];refine l' O hu f ((l+r)/2+1) r (by lia) (by lia) hr (fun i a=> ?_) h2;by_cases hi:i=(l+r)/2
    .subst hi;exact e
    .exact O.tr _ _ _ (hu i ((l+r)/2) (by lia) (by lia)) e
theorem ss {k d:Nat} (hk:k<p.size) (hd:d<=k) (i:Nat):at0 (bubble p k d) i=if i=k-d then at0 p k else if k-d<i/\i<=k then at0 p (i-1) else at0 p i:=by
 have h:=getElem?_bubble hk d hd i;have e:∀q:Array Nat,∀k,at0 q k=(q[k]?).getD 0:=fun q k=>by simp[at0,Array.getD];split<;>simp[*]
 rw[e,e,e,e,h];split
 .rfl
 .split<;>rfl
theorem su (O:Ordr c):∀(f:Nat) (p:Array Nat) (k:Nat),0<k->k+f<=p.size->Up c p k->Up c (aW c (kas_bin f p k)) (k+f)
 |0,p,k,_,_,h=>h
 |f+1,p,k,h0,hs,hu=>by
  unfold kas_bin;rw[gJ];obtain⟨a1,a2,a3⟩:=l' O hu k 0 k (by lia) (by lia) (AB _) (fun i z=>absurd z (by lia)) (fun i z1 z2=>absurd z2 (by lia));generalize aW c (kas_place p k k 0 k)=l at*
  have Lj:Up c (bubble p k (k-l)) (k+1):=by
   intro i j LS hj;rw[ss (by lia) (by lia),ss (by lia) (by lia),show k-(k-l)=l by lia];by_cases j1:j=l
   .rw [A8 j1,A6 (by lia),A6 (by lia)];exact a2 i (by lia)
   .rw [A6 j1];by_cases j2:l<j/\j<=k
    .rw [A8 j2];by_cases i1:i=l
     .rw [A8 i1];exact O.asym _ _ (a3 (j-1) (by lia) (by lia))
     .rw [A6 i1];by_cases i2:l<i/\i<=k
      .rw [A8 i2];exact hu _ _ (by lia) (by lia)
      .rw [A6 i2];exact hu _ _ (by lia) (by lia)
    .rw [A6 j2,A6 (by lia),A6 (by lia)];exact hu _ _ LS (by lia)
  have:=su O f (bubble p k (k-l)) (k+1) (by lia) (by rw[bubble_size];lia) Lj;rw[show k+(f+1)=k+1+f by lia];exact this
theorem Dv (O:Ordr c) (h0:0<n):Up c (aW c (kas_sort n)) n:=by
 unfold kas_sort;rw[gJ];obtain⟨r1,r2,r3,r4⟩:=Du O (p:=List.toArray (List.range n)) (n:=n) (by simp) h0 _ rfl;generalize aW c (kas_count n (List.toArray (List.range n)))=r at*
 have sz:r.2.size=n:=by rw[r1];simp
 by_cases h:r.1<n
 .rw [A8 h];have em:max r.1 1=r.1:=by lia
  rw[em];have:=su O (n-r.1) r.2 r.1 r2 (by lia) r4;rw[show r.1+(n-r.1)=n by lia] at this;exact this
 .rw [A6 h];have:r.1=n:=by lia
  rw[this] at r4;exact r4
end
theorem bN.wpc {n:Nat}{c:Nat->Nat->Bool}{α:Type}{R:α->Prop}{cmp:Nat->Nat->(Bool->OY->Prop)->OY->Prop}{Q:α->OY->Prop}{s:OY} (hc:∀i j,i<n->j<n->∀C:Bool->OY->Prop,C (c i j) s->cmp i j C s):∀{t:KasT α},(R (aW c t)->Q (aW c t) s)->bN n R t->t.kasWp cmp Q s
 | .ret a,hq,h=>hq h
 | .ask i j k,hq,h=>hc i j h.1 h.2.1 _ (bN.wpc hc (t:=k (c i j)) hq (h.2.2 (c i j)))
theorem sv:∀{xs ys zs:O4 Int},xs.length=ys.length->ys.length=zs.length->cV false ys xs=false->cV false zs ys=false->cV false zs xs=false
 |[],[],[],_,_,_,_=>rfl
 |x::xs,y::ys,z::zs,h1,h2,a,b=>by
  unfold cV at a b⊢;by_cases e1:y=x
  .rw [A8 e1] at a;by_cases e2:z=y
   .rw [A8 e2] at b;rw[A8 (e2.trans e1)];exact sv (by simpa using h1) (by simpa using h2) a b
   .rw [A6 e2] at b;have:=of_decide_eq_false b;rw[A6 (by lia)];exact AX (by lia)
  .rw [A6 e1] at a;have a:=of_decide_eq_false a;by_cases e2:z=y
   .rw [A6 (by lia)];exact AX (by lia)
   .rw [A6 e2] at b;have:=of_decide_eq_false b;rw[A6 (by lia)];exact AX (by lia)
theorem sw:∀{xs ys:O4 Int},xs.length=ys.length->cV false xs ys=true->cV false ys xs=false
 |[],[],_,h=>nomatch h
 |x::xs,y::ys,hl,h=>by
  unfold cV at h⊢;by_cases e:x=y
  .rw [A8 e] at h;rw[A8 e.symm];exact sw (by simpa using hl) h
  .rw [A6 e] at h;have:=B6 h;rw[A6 (by lia)];exact AX (by lia)
theorem sD {xs ys:O4 Int} (h:xs.length=ys.length):ltI xs ys=cV false xs ys:=by
 unfold ltI;rw[AX (by lia)]
def gK (xss:O4 (O4 Int)) (i:Nat):O4 Int:=xss.getD i (xss.headD [])
def gL (xss:O4 (O4 Int)) (i j:Nat):Bool:=ltI (gK xss i) (gK xss j)
theorem sE (h:i<xss.length):gK xss i=xss.getD i []:=by
 unfold gK;rw[A7,A7,A2 h];rfl
theorem sF (hi:i<xss.length) (hj:j<xss.length):gL xss i j=ltI (xss.getD i []) (xss.getD j []):=by
 unfold gL;rw[sE hi,sE hj]
theorem Dw (h0:0<xss.length) (h:∀xs∈xss,xs.length=m) (i:Nat):(gK xss i).length=m:=by
 unfold gK;rw[A7];cases e:xss[i]? with
 |some x=>exact h x (AV e)
 |none=>
  cases xss with
  |nil=>cases h0
  |cons x xs=>exact h x (by simp)
theorem Dx (h0:0<xss.length) (h:∀xs∈xss,xs.length=m):Ordr (gL xss):=by
 have k:=Dw h0 h;refine⟨fun a b e=> ?_,fun a b d e1 e2=> ?_⟩
 .unfold gL at e⊢;rw[sD (by rw[k,k])] at e⊢;exact sw (by rw[k,k]) e
 .unfold gL at e1 e2⊢;rw[sD (by rw[k,k])] at e1 e2⊢;exact sv (by rw[k,k]) (by rw[k,k]) e1 e2
section
variable {prog:O0}{w:O2}{A:O3}{E:MR->OY->Prop}{s:OY}
theorem Dy {c:Nat->Nat->Bool}{kd:SortKind}{a:OZ}{vs:O4 MR}{P:PySem.Fin->OY->Prop} (ho:s.heap.get? a=some (seqObj "list" vs.toArray n)) (h2:2<=vs.length) (h64:vs.length<64)
  (Mb:∀(R:SortKind->OY->Prop),R kd {s with heap:=bj s.heap a vs}->wpAny (model prog w) A (keyKind' vs.toArray) R E {s with heap:=bj s.heap a vs})
  (hc:∀i j,i<vs.length->j<vs.length->∀C:Bool->OY->Prop,C (c i j) {s with heap:=bj s.heap a vs}->wpAny (model prog w) A (keyLt' kd (vs.getD i .none) (vs.getD j .none)) C (fun _ _=>False) {s with heap:=bj s.heap a vs})
  (h:∀p,Ord vs.length p->p=aW c (kas_sort vs.length)->P (.done (.ret .none)) {s with heap:=sortedHeap s.heap a vs (p.map fun i=>vs.getD i .none)}):wpAny (model prog w) A (Builtin.«list.sort» ⟨[.ref a],[]⟩) P E s:=by
 rw[list_sort_plain];have ha:a<s.heap.objs.size:=AM ho;refine A0 (listItems_at ho rfl ?_);refine A0 (Cm ho rfl ?_ (by rw[AE,Av];lia) (AQ _));obtain⟨e1,KN⟩:∃e1,(s.heap.update a (Obj.mapSeq fun _=>(#[]:Array MR))).get? a=some (seqObj "list" #[] e1):=⟨_,Cg ho (fun _=> #[])⟩;refine A0 (seqEpoch_at KN rfl ?_);refine A0 (wpAny_newTuple ?_ (by show vs.length<=_;rw[Av];lia));refine A0 (DJ ?_ (AQ _));refine Az ?_;have MC:(bj s.heap a vs).get? a=some (seqObj "list" #[] e1):=by
  rw[BB _ _ _ (by rw[C5,BA];exact AT (Ak ha)),BB _ _ _ (by rw[BA];exact AT ha)];exact KN
 show wpAny (model prog w) A _ P E {s with heap:=bj s.heap a vs};dsimp only;have Nf:¬vs.toArray.size<2:=by rw[AE];lia
 rw[A6 Nf,A6 Nf];refine A0 (Mb _ ?_);have est:kas_st kd (pairsOf vs) (List.toArray (List.range vs.length))=SortSt.mk' kd (vs.toArray.zip vs.toArray) #[] 7 none:=by
  have e:=kas_range (pairsOf vs);rw[pairsOf_size] at e;show SortSt.mk' kd ((List.toArray (List.range vs.length)).map (kas_item (pairsOf vs))) #[] 7 none=SortSt.mk' kd (pairsOf vs) #[] 7 none;rw[e]
 have ask:(kas_sort vs.length).kasWp (kas_cmp prog w A kd (pairsOf vs)) (fun p s'=>s'={s with heap:=bj s.heap a vs}/\Ord vs.length p/\p=aW c (kas_sort vs.length)) {s with heap:=bj s.heap a vs}:=by
  refine bN.wpc (c:=c) (fun i j hi hj C hC=> ?_) (fun hp=>⟨rfl,hp,rfl⟩) (zK (by lia));rw[<-kas_ask_eq];exact hc i j hi hj C hC
 have run:=kas_runs (E:=E) (Q:=fun _ Km s'=>∃p,s'={s with heap:=bj s.heap a vs}/\(Ord vs.length p/\p=aW c (kas_sort vs.length))/\arrOf Km=p.map (kas_item (pairsOf vs))/\failedOf Km=none) h2 h64 (fun p' Km s' _ a2 a3 a4=>⟨p',a4.1,a4.2,a2,a3⟩) ask;rw[est] at run;refine A0 (Bm run ?_ fun _ _ e=>e);rintro⟨⟨⟩,Km⟩ s' ⟨p,rfl,⟨hp,hpc⟩,har,hf⟩;dsimp only at har hf⊢;have eo:(arrOf Km).map (·.2)=p.map fun i=>vs.getD i .none:=by
  rw[har,Array.map_map];refine Array.map_congr_left fun i _=> ?_;show(kas_item (pairsOf vs) i).2=_;rw[kas_item_eq]
 rw[eo];refine A0 (seqEpoch_at MC rfl ?_);refine A0 (Cm MC rfl ?_ (AQ _) (by rw[DS,Av,hp.size];lia));rw[hf];simp only[Cr,AG,Am];exact A3 (h p hp hpc)
end
end L2
namespace HT
open PySem PySem.Spec PyProof.Rows
section
variable {prog:O0}{w:O2}{A:O3}{E:MR->OY->Prop}{s:OY}
theorem getItem_tuple_all {t sl:OZ}{items:Array MR}{vl vu:MR}{lo hi:O7 Int}{Q:MR->OY->Prop} (ht:IsTup s.heap t items) (hs:s.heap.IsSliceOf sl vl vu .none) (pl:IsPart vl lo) (pu:IsPart vu hi)
  (hw:sIx items.size 0 lo=0/\sIx items.size items.size hi=items.size) (h:Q (.ref t) s):wpAny (model prog w) A (getItem (.ref t) (.ref sl)) Q E s:=by
 obtain⟨os,Od,hcs,hds⟩:=id hs;have hTs:s.TypeIs (.ref sl) "slice":=⟨os,Od,hcs⟩;unfold getItem;try with_reducible refine Az ?_
 first|refine A0 (A3 ?_)|skip
 refine A0 (wpAny_sequenceKey ht.typeIs (by decide) ?_);refine A0 (B3 (name:=Str.ofString "__getitem__") ht.typeIs BQ
  (Ai BQ ht.typeIs entry_tuple_getitem ?_ (args_tuple_getitem _ _)))
 show wpAny _ _ (Builtin.Tuple.tupleItemsOf (.ref t)>>=_) _ _ s;refine A0 (tupleItemsOf_ ht ?_);refine A0 (DW hTs ?_);rw[A8 (by decide)];refine A0 (qH hs pl pu ?_);have hyes:(((sIx items.size 0 lo:Nat):Int)==0&&(1:Int)==1&&(sIx items.size items.size hi-sIx items.size 0 lo)==items.size)=true:=by
  rw[hw.1,hw.2];simp
 show wpAny _ _ (if(((sIx items.size 0 lo:Nat):Int)==0&&(1:Int)==1&&(sIx items.size items.size hi-sIx items.size 0 lo)==items.size)=true then _ else _) _ _ s;rw[A8 hyes];unfold Builtin.Tuple.tupleIsExact;refine A0 (A0 (DW ht.typeIs (A3 ?_)));rw[A8 (by decide)];refine A0 (Bz ?_);exact A3 ⟨_,rfl,A3 h⟩
end
end HT
namespace L2
open PySem PySem.Spec PyProof.Rows
variable {n:Nat}{x:V}
section
variable {X:Cx}
inductive rSlA (K:W.Frag) (x:V) (lo:Option Int) (hi:Option Int) (H:Hp) (Q:VK):Prop
 |mk a xs:x= .ref a->SqT K H a xs->(((HT.sIx xs.length 0 lo=0/\HT.sIx xs.length xs.length hi=xs.length)->Q (.ref a) H))->((¬(HT.sIx xs.length 0 lo=0/\HT.sIx xs.length xs.length hi=xs.length)->∀p,H p=none->Q (.ref p) (upd H p (.tup (b8 xs lo hi)))))->rSlA K x lo hi H Q
theorem Dz:SlR X (rSlA X.K):=by
 intro J' s σ H x v vl vu lo hi sl Q I rx hs pl pu h;obtain⟨a,xs,rfl,hx,q1,q2⟩:=h;by_cases hw:HT.sIx xs.length 0 lo=0/\HT.sIx xs.length xs.length hi=xs.length
 .cases rx;obtain⟨Kd,r,ht,hz⟩:=I.tuple hx;have Ke:Kd.toArray.size=xs.length:=by rw[AE];exact r.length.symm
  refine⟨"tuple",_,BQ.lookup,ht.typeIs, ?_⟩;exact HT.getItem_tuple_all ht hs pl pu (by rw[Ke];exact hw) ⟨.ref a,H,I,rfl,q1 hw⟩
 .exact yg J' s σ H _ v vl vu lo hi sl Q I rx hs pl pu ⟨a,xs,rfl,hx,hw,q2 hw⟩
end
open PySem.W
section
variable {X:Cx}{J':O4 (OZ×Obj)}{σ:St}{H:Hp}{s:OY}
def bvs (bs:O4 Bool):Array MR:=(bs.map Value.bool).toArray
def EqT (K:W.Frag) (H:Hp) (n:Nat) (x y:V) (e:Bool):Prop:=∀(X:Cx) (J':O4 (OZ×Obj)) (σ:St) (s:OY),X.K=K->Inv X J' σ H s->∀(A:O3) (u v:MR),A.units+n<cLine->av x u->av y v->SeqAt.EqAt A s u v e
theorem EqR.told {K:W.Frag}{y:V}{e:Bool} (h:EqR K H n x y e):EqT K H n x y e:=fun X J' σ s hk I A u v hu ru rv=>by
 subst hk;exact(h.bU I (A:=A) hu ru rv).2.2
def ma (K:W.Frag) (H:Hp) (n:Nat) (xs:O4 V) (x:V) (es:Nat->Bool):Prop:=n<=8/\(∀(j:Nat) z,xs[j]? =some z->(∃a,z= .ref a)/\EqT K H n z x (es j))/\∀(i j:Nat) z,xs[i]? =some z->xs[j]? =some z->es i=es j
open Classical in
theorem sG {xs:O4 V}{es:Nat->Bool}{Kd:O4 MR} (t:ma X.K H n xs x es) (r:au xs Kd) {j:Nat}{u:MR} (hu:Kd[j]? =some u):fu Kd es u=es j:=by
 have same:∀i:Nat,Kd[i]? =some u->es i=es j:=fun i hi=>by
  have li:=(AD.mp hi).1;have lj:=(AD.mp hu).1;have ln:=r.length;have xi:xs[i]? =some xs[i]:=A2 (by lia);have xj:xs[j]? =some xs[j]:=A2 (by lia);obtain⟨u1,e1,r1⟩:=r.get xi;obtain⟨u2,e2,r2⟩:=r.get xj;rw[hi] at e1;rw[hu] at e2;cases e1;cases e2;obtain⟨⟨a,ea⟩,_⟩:=t.2.1 i _ xi;obtain⟨⟨b,eb⟩,_⟩:=t.2.1 j _ xj;rw[ea] at r1 xi;rw[eb] at r2 xj;obtain rfl:u=Value.ref a:=r1;have:Value.ref a=Value.ref b:=r2;cases this;exact t.2.2 i j _ xi xj
 unfold fu;cases h:es j with
 |true=>exact Ag ⟨j,hu,h⟩
 |false=>exact AX fun⟨i,hi,e⟩=>by rw[same i hi,h] at e;cases e
inductive rCountD (K:W.Frag) (o:V) (vs:List V) (H:Hp) (Q:VK):Prop
 |mk (p:Addr) (xs:List V) (x:V) (n:Nat) (es:Nat->Bool):o= .ref p->vs=[x]->SqL K H p xs->ma K H n xs x es->Q (.int (((List.range xs.length).countP es:Nat):Int)) H->rCountD K o vs H Q
theorem Ea {k:Nat} (hr:Room k X.A):MtM X "list.count" (rCountD X.K):=by
 intro J' s σ H o vs v us Q I ro rv h;obtain⟨p,xs,x,n,es,rfl,rfl,hq,t,q⟩:=h;cases ro;obtain⟨u,rfl,ru⟩:=au.one rv;have hu:=hr.un;have t8:=t.1;obtain⟨Kd,r,pl,hz⟩:=I.list hq;have ln:=r.length;obtain⟨⟨cls,dd,data,sl⟩,ho,hc,m,hd⟩:=pl.isList;simp only at hc hd;subst hc hd;have ec:Kd.toArray.toList.countP (fu Kd es)=(List.range xs.length).countP es:=by
  have e1:Kd=(List.range Kd.length).map fun i=>Kd.getD i .none:=by
   refine List.ext_getElem (by simp) fun i h1 h2=> ?_;simp[h1]
  have e2:Kd.countP (fu Kd es)=((List.range Kd.length).map fun i=>Kd.getD i .none).countP (fu Kd es):=by rw[<-e1]
  show Kd.countP (fu Kd es)=_;rw[e2,List.countP_map,ln];refine List.countP_congr fun i hi=> ?_;have Lq:i<Kd.length:=by simpa using hi
  have:fu Kd es (Kd.getD i .none)=es i:=sG t r (by rw[A7,A2 Lq];rfl);simp only[Function.comp_apply,this]
 refine call_meets F.slot_list_count ⟨_,ho,rfl⟩ F.entry_list_count (F.args_list_count_2 _ _) (SeqAt.list_countAt p Kd.toArray m dd sl u (fu Kd es)) ⟨ho,fun y hy=> ?_, ?_⟩
 .obtain⟨j,hj,e⟩:=CI.mp (by simpa using hy);have ej:Kd[j]? =some y:=by rw[A2 hj,e]
  have xj:xs[j]? =some xs[j]:=A2 (by lia);obtain⟨u2,e2,r2⟩:=r.get xj;rw[ej] at e2;cases e2;rw[sG t r ej];exact(t.2.1 j _ xj).2 X J' σ s rfl I _ _ _ (by rw[b9];lia) r2 ru
 rw[ec];exact⟨.int _,H,I.tok _,⟨_,rfl⟩,q⟩
end
end L2
namespace L2
open PySem PySem.SetTable PySem.Spec PyProof.Rows
variable {Q:Bool->OY->Prop}{S a b it x:OZ}{ad:Nat->OZ}{ep i m n p slot:Nat}{es:Array (Int×MR)}{h h':O6}{k:O4 Int}{kk:Nat->O4 Int}{ks:Array (O4 Int)}{o:Obj}{vs:O4 MR}{xs:Array Nat}{xss:O4 (O4 Int)}
def Ris (xs:Array Nat):Prop:=∀i j,i<j->j<xs.size->xs.getD i 0<xs.getD j 0
theorem sI (h:i<xs.size) (a b:Nat):xs.getD i a=xs.getD i b:=by simp[Array.getD,h]
theorem md {xs:Array Nat}{j:Nat} (r:Ris xs):∀(f lo hi:Nat),hi-lo<=f->lo<=hi->hi<=xs.size->(∀i,i<lo->xs.getD i 0<j)->(∀i,hi<=i->i<xs.size->j<=xs.getD i 0)->
  lo<=below.go xs j f lo hi/\below.go xs j f lo hi<=hi/\(∀i,i<below.go xs j f lo hi->xs.getD i 0<j)/\(∀i,below.go xs j f lo hi<=i->i<xs.size->j<=xs.getD i 0)
 |0,lo,hi,hf,hl,hh,h1,h2=>by
  unfold below.go;have:lo=hi:=by lia
  subst this;exact⟨AB _,AB _,h1,h2⟩
 |f+1,lo,hi,hf,hl,hh,h1,h2=>by
  unfold below.go;by_cases c:lo<hi
  .rw [A8 c];dsimp only;have hm:(lo+hi)/2<xs.size:=by lia
   by_cases c2:xs.getD ((lo+hi)/2) j<j
   .rw [A8 c2];rw[sI hm j 0] at c2;obtain⟨a,b,c,d⟩:=md r f ((lo+hi)/2+1) hi (by lia) (by lia) hh (fun i Lq=>by
     by_cases e:i=(lo+hi)/2
     .rw [e];exact c2
     .exact Nat.lt_trans (r i _ (by lia) hm) c2) h2
    exact⟨by lia,b,c,d⟩
   .rw [A6 c2];rw[sI hm j 0] at c2;obtain⟨a,b,c,d⟩:=md r f lo ((lo+hi)/2) (by lia) (by lia) (by lia) h1 (fun i h3 h4=>by
     by_cases e:i=(lo+hi)/2
     .rw [e];lia
     .have:=r ((lo+hi)/2) i (by lia) h4;lia)
    exact⟨a,by lia,c,d⟩
  .rw [A6 c];have:lo=hi:=by lia
   subst this;exact⟨AB _,AB _,h1,h2⟩
theorem Eb (r:Ris xs) (j:Nat):below xs j<=xs.size/\(∀i,i<below xs j->xs.getD i 0<j)/\(∀i,below xs j<=i->i<xs.size->j<=xs.getD i 0):=by
 obtain⟨_,b,c,d⟩:=md (j:=j) r xs.size 0 xs.size (by lia) (AQ _) (AB _) (fun i h=>absurd h (by lia)) (fun i h1 h2=>by lia);exact⟨b,c,d⟩
def hAt (es:Array (Int×MR)) (i:Nat):Int:=(es[i]?.map (·.1)).getD 0
structure Tb (t:SetTable) (es:Array (Int×MR)):Prop where
 size:t.place.size=es.size
 dum:t.dummies= #[]
 ris:Ris t.place
 few:es.size<64
theorem sJ {α:Type}{xs:Array α}{a:α} (h:xs[i]? =some a):i<xs.size:=by
 rcases C4 i xs.size with c|c
 .exact c
 .rw [BM c] at h;exact nomatch h
theorem jR {t:SetTable} (b:Tb t es) (hs:es.size<=t.mask):t.fits es.size=true:=by
 have h1:t.fill<=t.mask:=by
  unfold SetTable.fill;rw[b.dum,b.size];exact hs
 unfold SetTable.fits;rw[b.size,Ag h1];simp
def hK (k:O4 Int):Int:=reduceHash (Builtin.Tuple.tupleHashOf (k.map hashInt))
def okT (t:SetTable) (n:Nat):Bool:=t.fits n&& !t.gaveWay&&t.plain
def srE (t:SetTable) (ks:Array (O4 Int)) (k:O4 Int):Nat->Probe->O7 (O7 Nat)
 |0,_=>none
 |f+1,p=>match t.probe (fun i=>(ks[i]?.map hK).getD 0) (hK k) p with
  |some (.empty j none)=>some (some j)
  |some (.candidate j i next)=>match ks[i]? with
   |some k'=>if k'=k then some none else if t.slot j= .live i then srE t ks k f next else none
   |none=>none
  |_=>none
abbrev Ks:=SetTable×Array (O4 Int)
variable {y:Ks}
def reE (t:SetTable) (ks:Array (O4 Int)):O7 Ks:=(t.relaid (ks.map hK) (grown ks.size)).bind fun r=>
 if(r.2.filterMap (ks[·]?)).size=ks.size/\sizeAbove (grown ks.size)<=4096 then some (r.1,r.2.filterMap (ks[·]?)) else none
def puE (t:SetTable) (ks:Array (O4 Int)) (k:O4 Int) (j:Nat):O7 Ks:=
 if(t.put j).2<=ks.size/\ks.size<64/\okT (t.put j).1 (ks.size+1)=true then
  if(t.put j).1.tooFull=true then reE (t.put j).1 (insertAt ks (t.put j).2 k) else some ((t.put j).1,insertAt ks (t.put j).2 k)
 else none
def adE (x:Ks) (k:O4 Int):O7 Ks:=if okT x.1 x.2.size=true then(srE x.1 x.2 k 300 (x.1.probeStart (hK k))).bind fun r=>match r with
  |none=>some x
  |some j=>puE x.1 x.2 k j
 else none
def stE (x:Ks):O4 (O4 Int)->O7 Ks
 |[]=>some x
 |k::r=>(adE x k).bind fun y=>stE y r
theorem sK {x y:Ks}:∀{l:O4 (O4 Int)}{i:Nat}{k:O4 Int},stE x (l.take i)=some y->l[i]? =some k->stE x (l.take (i+1))=adE y k
 |[],i,k,_,h=>by simp at h
 |a::l,0,k,h,hk=>by
  cases hk;cases h;show(adE x a).bind (fun y=>stE y [])=_;cases adE x a<;>rfl
 |a::l,i+1,k,h,hk=>by
  rw[BO,stE] at h⊢;obtain⟨z,hz,h⟩:=AA.mp h;rw[hz,Option.bind_some];exact sK (l:=l) h hk
theorem sL {x y:Ks}:∀{l:O4 (O4 Int)},stE x l=some y->∀i,∃z,stE x (l.take i)=some z
 |[],_,i=>⟨x,by simp[stE]⟩
 |a::l,h,0=>⟨x,rfl⟩
 |a::l,h,i+1=>by
  rw[stE] at h;obtain⟨z,hz,h⟩:=AA.mp h;obtain⟨u,hu⟩:=sL (l:=l) h i;exact⟨u,by rw[BO,stE,hz];exact hu⟩
structure EsK (kk:Nat->O4 Int) (ad:Nat->OZ) (n:Nat) (es:Array (Int×MR)) (ks:Array (O4 Int)):Prop where
 size:es.size=ks.size
 bU:∀(i:Nat) (k:List Int),ks[i]? =some k->∃j,j<n/\kk j=k/\es[i]? =some (hK k, .ref (ad j))
theorem EsK.hash (e:EsK kk ad n es ks):hAt es=fun i=>(ks[i]?.map hK).getD 0:=by
 funext i
 unfold hAt;cases h:ks[i]? with
 |none=>
  have:es[i]? =none:=by rw[C',e.size,<-C'];exact h
  rw[this];rfl
 |some k=>
  obtain⟨j,_,_,h2⟩:=e.bU i k h;rw[h2];rfl
theorem EsK.of (e:EsK kk ad n es ks) {v:Int×MR} (h:es[i]? =some v):∃j,j<n/\ks[i]? =some (kk j)/\v=(hK (kk j), .ref (ad j)):=by
 have hi:i<ks.size:=by rw[<-e.size];exact sJ h
 obtain⟨j,h1,h2,h3⟩:=e.bU i _ (Ah hi);rw[h] at h3;cases h3;exact⟨j,h1,by rw[Ah hi,h2],by rw[h2]⟩
def EsK.mono (e:EsK kk ad n es ks) (h:n<=m):EsK kk ad m es ks:=⟨e.size,fun i k hk=>let ⟨j,h1,h2⟩:=e.bU i k hk;⟨j,Ap h1 h,h2⟩⟩
theorem sM {α:Type}{xs:Array α}(hp:p<=xs.size) (x:α) (i:Nat):(insertAt xs p x)[i]? =if i<p then xs[i]? else if i=p then some x else xs[i-1]? :=by
 unfold insertAt;have s1:(xs.extract 0 p).size=p:=by simp;lia
 have s2:((xs.extract 0 p).push x).size=p+1:=by simp;lia
 by_cases h1:i<p
 .rw [A8 h1,Array.getElem?_append_left (by rw[s2];lia),Array.getElem?_push,A6 (by rw[s1];lia)];simp[Array.getElem?_extract];lia
 .rw [A6 h1];by_cases h2:i=p
  .rw [A8 h2,Array.getElem?_append_left (by rw[s2];lia),Array.getElem?_push,A8 (by rw[s1];exact h2)]
  .rw [A6 h2,Array.getElem?_append_right (by rw[s2];lia),s2];simp only[Array.getElem?_extract];by_cases h3:i-(p+1)<xs.size-p
   .rw [A8 (by lia)];congr 1
    lia
   .rw [A6 (by lia)];symm;rw[C'];lia
theorem me {α:Type}{xs:Array α}(hp:p<=xs.size) (x:α):(insertAt xs p x).size=xs.size+1:=by
 unfold insertAt;simp;lia
section
variable {prog:O0}{w:O2}{A:O3}{E:MR->OY->Prop}{s:OY}
theorem sN (h:ItemsAre (intKind prog w) k vs):∀v∈vs,∃n t,v= .int n t:=by
 induction h with
 |nil=>intro v hv;simp at hv
 | @cons k v' ks vs h1 _ ih=>
  intro v hv;rcases AJ.mp hv with rfl|hv
  .cases v with
   |int n t=>exact⟨n,t,rfl⟩
   |_=>exact absurd h1 (by simp[intKind,Value.isInt])
  .exact ih v hv
theorem sO (hx:IsTupleKey (intKind prog w) s.heap k x) (h:Q false s):
  wpAny (model prog w) A (ofAClassStatement 8 (.ref x)) Q E s:=by
 have hT:=hx.typeIs;obtain⟨o,items,n,ho,hc,hd,hi⟩:=hx;unfold ofAClassStatement;refine A0 (DW hT ?_);show wpAny _ _ ((if("tuple"=="tuple")=true then pure true else isSubtype (.type "tuple") (.type "tuple"))>>=_) _ _ s;refine A0 (A3 ?_);simp only[B8,AG,Am];refine A0 (Bi ho hd ?_);refine A0 ?_;show wpAny _ _ (forIn items _ _) _ _ s;rw[<-CA];refine Ba _ (fun aJ r s'=>r.1=none/\s'=s/\∀v∈aJ,∃n t,v=Value.int n t) _ ?_ ?_ _ _ ⟨rfl,rfl,sN hi⟩
 .rintro v aJ r s' ⟨hr,rfl,KE⟩;obtain⟨n,t,rfl⟩:=KE v AH;refine A0 (DL (show ofAClassStatement 7 (.int n t)=pure false from by unfold ofAClassStatement;rfl) (A3 ?_));simp only[AG,Am];exact⟨trivial,trivial,fun u Os=>KE u (AL _ Os)⟩
 .rintro⟨r1,r2⟩ s' ⟨hr,rfl,_⟩;simp only at hr;subst hr;exact A3 h
theorem Ec (hx:IsTupleKey (intKind prog w) s.heap k x) (ys:O4 MR)
  (hy:∀y∈ys,∃b j,y= .ref b/\IsTupleKey (intKind prog w) s.heap j b) (h:Q false s):
  wpAny (model prog w) A (searchCouldBeSeen (.ref x) ys) Q E s:=by
 unfold searchCouldBeSeen;refine A0 ?_;refine Ba _ (fun aJ r s'=>r.1=none/\s'=s/\∀v∈aJ,∃b j,v=Value.ref b/\IsTupleKey (intKind prog w) s.heap j b) _ ?_ ?_ _ _ ⟨rfl,rfl,hy⟩
 .rintro v aJ r s' ⟨hr,rfl,KE⟩;obtain⟨b,j,rfl,hj⟩:=KE v AH;have NX:∀u∈aJ,∃b j,u=Value.ref b/\IsTupleKey (intKind prog w) s'.heap j b:=fun u Os=>KE u (AL _ Os);dsimp only;split
  .exact A3 ⟨rfl,rfl,NX⟩
  .refine A0 (wpAny_eqIsQuiet_tuple hx ?_);simp only[B8,AG,Am];refine A0 (wpAny_eqIsQuiet_tuple hj ?_);simp only[B8,AG,Am];refine A0 (sO hx ?_);simp only[AG,Am];refine A0 (sO hj ?_);simp only[AG,Am];exact A3 ⟨rfl,rfl,NX⟩
 .rintro⟨r1,r2⟩ s' ⟨hr,rfl,_⟩;simp only at hr;subst hr;exact A3 h
def Ed (a:Addr) (x:Value) (h:Int) (KS:Bool) (K':Nat) (La:Option Probe):setSearchFrom a x h KS (K'+1) La=(do
  let (es,_,t)<-setState a
  if t.gaveWay then unsupported "set:on-a-table-that-gave-way"
  let some met:=t.probe (hAt es) h (La.getD (t.probeStart h))|unsupported "internal:set-table-without-an-empty-slot"
  match met with
  | .empty j dummy=>
   match dummy with
   |none=>return .free j false
   |some d=>
    if KS&&t.slot d != .dummy then rule "set.search.the-dummy-was-taken";return<-setSearchFrom a x h KS K' none
    return .free d true
  | .candidate j i next=>
   if !t.led then
    if<-searchCouldBeSeen x ((es.filter (·.1==h)).toList.map (·.2)) then unsupported "set:the-search-would-show-the-table"
   let some (_,y):=es[i]? |unsupported "internal:set-entry"
   let LU<-holding [y] (eqBool y x)
   let (KL,_,t')<-setState a
   if KS&&LU then return .there none
   let some same:=t'.sameMemory t.moves t.mask|unsupported "set.changed-during-lookup:is-the-new-block-at-the-old-address"
   let MS<-match(if same then t'.slot j else .empty) with
    | .live i'=>match KL[i']? with
     |some (_,y')=>do pure (if<-isSame y' y then some i' else none)
     |none=>pure none
    |_=>pure none
   match MS with
   |none=>rule "set.search.anew";setSearchFrom a x h KS K' none
   |some i'=>if LU then return .there (some i') else setSearchFrom a x h KS K' (some next)):=rfl
theorem sP {a:Addr}{o:Obj}{es:Array (Int×Value)}{ks:Array (List Int)}{ep:Nat}{t:SetTable}{kk:Nat->List Int}{ad:Nat->Addr}{n:Nat} (ho:s.heap.get? a=some o) (hd:o.data= .set es ep t) (hf:t.fits es.size=true) (hw:t.gaveWay=false)
  (hu:A.units<cLine) (ek:EsK kk ad n es ks) (hkk:∀j,j<n->IsTupleKey (intKind prog w) s.heap (kk j) (ad j)) {k:List Int}{x:Addr} (hx:IsTupleKey (intKind prog w) s.heap k x) {Q:SetFound->Shared->Prop}{r:Option Nat}
  (hQ:Q (match r with|none=> .there none|some j=> .free j false) s):
  ∀(m K':Nat) (La:Option Probe),srE t ks k m (La.getD (t.probeStart (hK k)))=some r->m<=K'->
   wpAny (model prog w) A (setSearchFrom a (.ref x) (hK k) true K' La) Q E s
 |0,_,_,h,_=>nomatch h
 |m+1,0,_,_,h=>absurd h (by lia)
 |m+1,K'+1,La,h,hm=>by
  rw[Ed];refine A0 (BR ho hd hf ?_);dsimp only;rw[hw];simp only[AG,Am];rw[srE] at h;rw[ek.hash];generalize hp:t.probe (fun i=>(ks[i]?.map hK).getD 0) (hK k) (La.getD (t.probeStart (hK k)))=met at h⊢
  match met,h with
  |some (.empty j none),h=>
   cases h;exact A3 hQ
  |some (.candidate j i next),h=>
   dsimp only at h⊢;cases hk:ks[i]? with
   |none=>rw[hk] at h;cases h
   |some k'=>
    rw[hk] at h;dsimp only at h;obtain⟨jj,j1,rfl,ey⟩:=ek.bU i k' hk;have hy:=hkk jj j1;have hSeen:∀y∈(es.filter (fun e=>e.1==hK k)).toList.map (·.2),∃b j,y=Value.ref b/\IsTupleKey (intKind prog w) s.heap j b:=by
     intro y hy;obtain⟨e,he,rfl⟩:=Af.mp hy;have Ny:e∈es:=(Array.mem_filter.mp (Array.mem_toList_iff.mp he)).1;obtain⟨i,hi,ei⟩:=Array.mem_iff_getElem.mp Ny;obtain⟨q,q1,_,q3⟩:=ek.of (Ah hi);rw[ei] at q3;subst q3;exact⟨_,_,rfl,hkk q q1⟩
    have NY:wpAny (model prog w) A (do
      let some (_,y):=es[i]? |unsupported "internal:set-entry"
      let LU<-holding [y] (eqBool y (.ref x))
      let (KL,_,t')<-setState a
      if true&&LU then return SetFound.there none
      let some same:=t'.sameMemory t.moves t.mask|unsupported "set.changed-during-lookup:is-the-new-block-at-the-old-address"
      let MS<-match(if same then t'.slot j else .empty) with
       | .live i'=>match KL[i']? with
        |some (_,y')=>do pure (if<-isSame y' y then some i' else none)
        |none=>pure none
       |_=>pure none
      match MS with
      |none=>rule "set.search.anew";setSearchFrom a (.ref x) (hK k) true K' none
      |some i'=>if LU then return SetFound.there (some i') else setSearchFrom a (.ref x) (hK k) true K' (some next)) Q E s:=by
     rw[ey];dsimp only;refine A0 (Az (wpAny_eqBool_tuple hu hy hx ?_));refine A0 (BR ho hd hf ?_);dsimp only;by_cases LC:kk jj=k
     .rw [A8 LC] at h;cases h;rw[Ag LC];simp only[Bool.true_and,C1];exact A3 hQ
     .rw [A6 LC] at h;rw[AX LC];simp only[C9,AG,Am];have hsm:t.sameMemory t.moves t.mask=some true:=by unfold SetTable.sameMemory;simp
      rw[hsm];dsimp only;by_cases hs:t.slot j= .live i
      .rw [A8 hs] at h;rw[A8 rfl,hs];dsimp only;rw[ey];dsimp only;refine A0 ?_;refine wpAny_isSame_ref_self ?_;simp only[C1];exact sP ho hd hf hw hu ek hkk hx hQ m K' (some next) h (by lia)
      .rw [A6 hs] at h;cases h
    cases hl:t.led with
    |true=>simpa only[B8,AG,Am] using NY
    |false=>
     simp only[Cb,C1];refine A0 (Ec hx _ hSeen ?_);simp only[AG,Am];exact NY
theorem sQ {es:Array (Int×MR)}{ep:Nat}{t:SetTable} (ho:h.get? a=some {cls:= .type "set",dict:=none,data:= .set es ep t}) (KL:Array (Int×MR)) (t':SetTable):
  (h.update a (Obj.putSet KL t')).get? a=some {cls:= .type "set",dict:=none,data:= .set KL (ep+1) t'}:=by
 have:=CK (Obj.putSet KL t') ho (by rw[putSet_of KL t' rfl];rfl);rw[putSet_of KL t' rfl] at this;exact this
theorem Ee (hx:IsTupleKey (intKind prog w) s.heap k x) (h:Q true s):
  wpAny (model prog w) A (hashByValue 8 (.ref x)) Q E s:=by
 have hT:=hx.typeIs;obtain⟨o,items,n,ho,hc,hd,hi⟩:=hx;unfold hashByValue;refine A0 (Bv hT Bs.lookup ?_);dsimp only;refine A0 (Bi ho hd ?_);refine A0 ?_;show wpAny _ _ (forIn items _ _) _ _ s;rw[<-CA];refine Ba _ (fun aJ r s'=>r.1=none/\s'=s/\∀v∈aJ,∃n t,v=Value.int n t) _ ?_ ?_ _ _ ⟨rfl,rfl,sN hi⟩
 .rintro v aJ r s' ⟨hr,rfl,KE⟩;obtain⟨n,t,rfl⟩:=KE v AH;refine A0 (DL (show hashByValue 7 (.int n t)=pure true from by unfold hashByValue;rfl) (A3 ?_));simp only[B8,AG,Am];exact⟨trivial,trivial,fun u Os=>KE u (AL _ Os)⟩
 .rintro⟨r1,r2⟩ s' ⟨hr,rfl,_⟩;simp only at hr;subst hr;exact A3 h
def Ef (a:Addr) (Mc:Nat):setRelay a Mc=(do
  let (es,_,t)<-setState a
  if SetTable.sizeAbove Mc>sizeLine then unsupported "set:memory"
  let (es,t)<-(do
   let some (t,order):=t.relaid (es.map (·.1)) Mc|unsupported "internal:set-table-without-room"
   let KL:=order.filterMap (es[·]?)
   if KL.size !=es.size then unsupported "internal:set-table-lost-an-element"
   pure (KL,t):Sem (Array (Int×Value)×SetTable))
  storeSet a es t):=rfl
def dZ (h:O6) (S:OZ) (t:SetTable) (es:Array (Int×MR)):Prop:=∃ep,h.get? S=some {cls:= .type "set",dict:=none,data:= .set es ep t}
theorem EsK.ins {kk:Nat->O4 Int}{ad:Nat->OZ}{n:Nat}{es:Array (Int×MR)}{ks:Array (O4 Int)} (e:EsK kk ad n es ks) {p:Nat} (hp:p<=ks.size):EsK kk ad (n+1) (insertAt es p (hK (kk n), .ref (ad n))) (insertAt ks p (kk n)):=by
 have Ky:p<=es.size:=by rw[e.size];exact hp
 refine⟨by rw[me Ky,me hp,e.size],fun i k h=> ?_⟩;rw[sM hp] at h;rw[sM Ky];have LM:∀i,ks[i]? =some k->∃j,j<n+1/\kk j=k/\es[i]? =some (hK k,Value.ref (ad j)):=fun i h=>let ⟨j,h1,h2⟩:=e.bU i k h;⟨j,by lia,h2⟩;split at h
 .rename_i c;rw[A8 c];exact LM _ h
 .rename_i c;rw[A6 c];split at h
  .rename_i c2;rw[A8 c2];cases h;exact⟨n,by lia,rfl,rfl⟩
  .rename_i c2;rw[A6 c2];exact LM _ h
theorem sR {α β:Type}{xs:Array α}{ys:Array β} (e:xs.size=ys.size):∀(l:O4 Nat),(l.filterMap (xs[·]?)).length=(l.filterMap (ys[·]?)).length/\∀(i:Nat) (v:β),(l.filterMap (ys[·]?))[i]? =some v->∃q:Nat,ys[q]? =some v/\(l.filterMap (xs[·]?))[i]? =xs[q]?
 |[]=>⟨rfl,fun i v h=>by simp at h⟩
 |q::l=>by
  obtain⟨h1,h2⟩:=sR e l;rw[Ce,Ce];rcases C4 q xs.size with c|c
  .rw [Ah c,Ah (by lia:q<ys.size)];refine⟨by simp only[Ad];lia,fun i v h=> ?_⟩;cases i with
   |zero=>exact⟨q,by rw[Ah (by lia:q<ys.size)];simpa using h,by rw[Ah c];rfl⟩
   |succ i=>exact h2 i v (by simpa using h)
  .rw [BM c,BM (by lia)];exact⟨h1,h2⟩
theorem EsK.re (e:EsK kk ad n es ks) (od:Array Nat):EsK kk ad n (od.filterMap (es[·]?)) (od.filterMap (ks[·]?)):=by
 obtain⟨h1,h2⟩:=sR e.size od.toList;rw[<-Array.toList_filterMap,<-Array.toList_filterMap] at h1;refine⟨by rw[<-BC,<-BC];exact h1,fun i k h=> ?_⟩;rw[<-Bt,Array.toList_filterMap] at h⊢;obtain⟨q,q1,q2⟩:=h2 i k h;rw[q2];exact e.bU q k q1
theorem Eg {t:SetTable}(hS:dZ s.heap S t es) (ek:EsK kk ad n es ks)
  (hkk:∀j,j<n+1->IsTupleKey (intKind prog w) s.heap (kk j) (ad j)) (hu:A.units<cLine) (h:adE (t,ks) (kk n)=some y) 
  (k:∀b h' KL,Heap.SameBut S s.heap h'->dZ h' S y.1 KL->EsK kk ad (n+1) KL y.2->Q b {s with heap:=h'}):
  wpAny (model prog w) A (setAddHashed S (.ref (ad n)) (hK (kk n))) Q E s:=by
 have hS0:=hS;obtain⟨ep,ho⟩:=hS;have hx:=hkk n (by lia);unfold adE at h;split at h
 .rename_i hok;unfold okT at hok;simp only[A9,Bool.not_eq_true'] at hok;obtain⟨⟨hf,hw⟩,hp⟩:=hok;have hf:t.fits es.size=true:=by rw[ek.size];exact hf
  obtain⟨r,hr,h⟩:=AA.mp h;unfold setAddHashed setAddHashedIn;refine Az (A0 (BR ho rfl hf ?_));dsimp only;have hsc:byScan (.ref (ad n)) es=false:=by unfold byScan;rfl
  rw[hsc];simp only[AG,Am];unfold setSearch;refine A0 (sP ho rfl hf hw hu ek (fun j hj=>hkk j (by lia)) hx (r:=r) ?_ 300 100000 none hr (by lia));cases r with
  |none=>
   cases h;exact A3 (k false s.heap es (Heap.SameBut.refl _ _) hS0 (ek.mono (by lia)))
  |some j=>
   dsimp only at h⊢;unfold puE at h;split at h
   .rename_i c;obtain⟨c1,c2,c3⟩:=c;unfold okT at c3;simp only[A9,Bool.not_eq_true'] at c3;obtain⟨⟨f1,w1⟩,p1⟩:=c3;refine A0 (BR ho rfl hf ?_);dsimp only;generalize t.put j=tp at c1 f1 w1 p1 h⊢;obtain⟨t1,p⟩:=tp;dsimp only at c1 f1 w1 p1 h⊢;rw[A8 p1];refine A0 (Ee hx ?_);simp only[C1];have Ot:=ek.ins c1;have z1:(insertAt es p (hK (kk n),Value.ref (ad n))).size=es.size+1:=me (by rw[ek.size];exact c1) _;have e64:es.size<64:=by rw[ek.size];exact c2
    have hsl:sizeLine>=4096:=by rw[Av];decide
    have f1':t1.fits (insertAt es p (hK (kk n),Value.ref (ad n))).size=true:=by rw[z1,ek.size];exact f1
    refine A0 (wpAny_storeSet_of ho rfl ?_ (by rw[z1];lia));have KN:=sQ ho (insertAt es p (hK (kk n),Value.ref (ad n))) t1;have sb1:=BD s.heap S (Obj.putSet (insertAt es p (hK (kk n),Value.ref (ad n))) t1);generalize s.heap.update S (Obj.putSet (insertAt es p (hK (kk n),Value.ref (ad n))) t1)=h1 at KN sb1⊢;rw[<-z1];generalize insertAt es p (hK (kk n),Value.ref (ad n))=es1 at Ot f1' KN z1⊢;generalize insertAt ks p (kk n)=ks1 at Ot h;cases full:t1.tooFull with
    |true=>
     rw[full,A8 rfl] at h;simp only[Cb,Bool.and_self,C1];unfold reE at h;obtain⟨q,hq,h⟩:=AA.mp h;split at h
     .rename_i c4;cases h;have eh:es1.map (·.1)=ks1.map hK:=by
       refine Array.ext_getElem? fun i=> ?_;rw[Array.getElem?_map,Array.getElem?_map];cases e:ks1[i]? with
       |none=>
        have:es1[i]? =none:=by rw[C',Ot.size,<-C'];exact e
        rw[this];rfl
       |some k0=>
        obtain⟨_,_,_,e2⟩:=Ot.bU i k0 e;rw[e2];rfl
      rw[Ef];refine A0 ?_;refine A0 (BR (s:={s with heap:=h1}) KN rfl f1' ?_);dsimp only;have zk:es1.size=ks1.size:=Ot.size;rw[A6 (by rw[zk];lia),eh,zk,hq];dsimp only;have ek2:=Ot.re q.2;rw[show((q.2.filterMap (es1[·]?)).size !=ks1.size)=false from by rw[ek2.size,c4.1];simp];simp only[AG,Am];refine A0 (A3 ?_);refine wpAny_storeSet_of (s:={s with heap:=h1}) KN rfl ?_ (by rw[ek2.size,c4.1,<-zk,z1];lia);have K5:=sQ KN (q.2.filterMap (es1[·]?)) q.1;have NZ:=BD h1 S (Obj.putSet (q.2.filterMap (es1[·]?)) q.1);generalize h1.update S _=h2 at K5 NZ⊢;exact A3 (k true h2 _ (sb1.trans NZ) ⟨_,K5⟩ ek2)
     .cases h
    |false=>
     rw[full,A6 (by simp)] at h;cases h;simp only[Cb,C9,AG,Am];exact A3 (k true h1 _ sb1 ⟨_,KN⟩ Ot)
   .cases h
 .cases h
def dZ.mv {t:SetTable}(a:dZ h S t es) (e:∀o,h.get? S=some o->h'.get? S=some o):dZ h' S t es:=let ⟨ep,ho⟩:=a;⟨ep,e _ ho⟩
theorem mf (q:IsTupleKey (intKind prog w) h k x) (e:∀o,h.get? x=some o->h'.get? x=some o):IsTupleKey (intKind prog w) h' k x:=by
 obtain⟨o,items,n,ho,r⟩:=q;exact⟨o,items,n,e _ ho,r⟩
theorem Eh {R:Result->OY->Prop}{I:OZ}{fp wr:O4 OZ}{G:Array GenState->Array GenState->Prop}{P:Nat->MR->Prop}{St:Nat->OY->Prop}
  (Wq:WalksS prog w A.in1 I fp wr G n P St) (S:OZ) (hSf:S∉fp) (hu:A.in1.units<cLine)
  (kk:Nat->O4 Int) (ad:Nat->OZ) (hval:∀i v,P i v->v= .ref (ad i)) (hwr:∀i,i<n->ad i∉wr) {x0:Ks}{l:O4 (O4 Int)} (hlk:∀i,i<n->l[i]? =some (kk i)) (hse:∀i,∃y,stE x0 (l.take i)=some y):
  ∀(k i:Nat) (s:OY) (es:Array (Int×MR)) (y:Ks),n-i=k->i<=n->St i s->dZ s.heap S y.1 es->EsK kk ad i es y.2->stE x0 (l.take i)=some y->(∀j,j<n->IsTupleKey (intKind prog w) s.heap (kk j) (ad j))->
   (∀s' KL y',Moved (S::wr) G s s'->dZ s'.heap S y'.1 KL->EsK kk ad n KL y'.2->stE x0 (l.take n)=some y'->R (.ok (.ret .none)) s')->
   codeAny (model prog w) A (.builtin "set.update.loop" ⟨[.ref S, .ref I],[]⟩) R s:=by
 have hSw:S∉wr:=fun h=>hSf (Wq.sub _ h);have Mu:∀b∈wr,b∈S::wr:=fun b hb=>AL _ hb;intro k;induction k with
 |zero=>
  intro i s es y hk hi Lm hS ek hy hkk hR;have MD:i=n:=by lia
  subst MD;refine CL F.entry_set_update_loop ?_;rw[C3 F.plain_set_update_loop _];show wpAny _ A.in1 (pyNext (.ref I)>>=_) _ _ s;refine A0 (Wq.done s _ _ Lm fun s' hm=> ?_);show wpAny _ A.in1 (ret Value.none) _ _ s';exact A3 (hR s' es y (hm.mono Mu) (hS.mv fun o e=>hm.heap S o hSw e) ek hy)
 |succ k ih=>
  intro i s es y hk hi Lm hS ek hy hkk hR;have Kf:i<n:=by lia
  refine CL F.entry_set_update_loop ?_;rw[C3 F.plain_set_update_loop _];show wpAny _ A.in1 (pyNext (.ref I)>>=_) _ _ s;refine A0 (Wq.item i s _ _ Kf Lm fun v s' hP Md hm=> ?_);obtain rfl:=hval i v hP;have NA:dZ s'.heap S y.1 es:=hS.mv fun o e=>hm.heap S o hSw e;have LC:∀j,j<n->IsTupleKey (intKind prog w) s'.heap (kk j) (ad j):=fun j hj=>mf (hkk j hj) fun o e=>hm.heap _ o (hwr j hj) e;obtain⟨y2,hy2⟩:=hse (i+1);have N0:=hy2;rw[sK hy (hlk i Kf)] at N0;show wpAny _ A.in1 (holding [Value.ref (ad i)] (setAdd S (.ref (ad i)))>>=_) _ _ s';refine A0 (Az ?_);unfold setAdd;refine Az ?_;refine A0 (wpAny_pyHash_tuple hu (LC i Kf) ?_);refine Eg (s:={s' with toks:=s'.toks+((kk i).length+1)}) NA ek (fun j hj=>LC j (by lia)) hu (y:=y2) N0 fun b h' KL hsb hS2 ek2=> ?_;have hkS:∀j,j<n->ad j≠S:=by
   intro j hj e;obtain⟨o,items,m,ho,_,hd,_⟩:=LC j hj;obtain⟨ep,KJ⟩:=NA;rw[e,KJ,Option.some.injEq] at ho;subst ho;exact nomatch hd
  refine A3 ⟨DK F.plain_set_update_loop _,ih (i+1) _ KL y2 (by lia) Kf (Wq.frame _ s' _ _ Md (Nat.le_add_right _ _) fun b hb o e=> ?_) hS2 ek2 hy2 (fun j hj=>mf (LC j hj) fun o e=> ?_) fun s'' es'' Ni hm'' hS'' ek'' Me=> ?_⟩
  .rw [hsb.2 b (fun h:b=S=>hSf (by rw[<-h];exact hb))];exact e
  .show h'.get? _=_;rw[hsb.2 _ (hkS j hj)];exact e
  .refine hR s'' es'' Ni (Moved.trans Wq.gtrans ((hm.mono Mu).then_heap (Nat.le_add_right _ _) fun b o hb e=> ?_) hm'') hS'' ek'' Me;rw[hsb.2 b (fun h:b=S=>hb (by rw[h];exact AH))];exact e
theorem Ei (a:MR) {Q₁:MR->OY->Prop}
  (h:Q₁ (.ref s.heap.objs.size) {s with heap:=s.heap.push {cls:= .type "set",dict:=none,data:= .set #[] 0 (.fresh 0 0 (!w.params.followText "set-order"))}}):
  codeAny (model prog w) A (.call (.builtin "set.__new__") ⟨[.type "set",a],[]⟩) (wants Q₁ E) s:=by
 refine codeAny_of_tree ?_;show wpAny _ A.in1 (do checkBuiltinCall "set.__new__" ⟨[.type "set",a],[]⟩;again (.builtin "set.__new__" ⟨[.type "set",a],[]⟩)) _ _ s;refine A0 (DL (F.newCall_set_1 a) (A3 ⟨DK F.plain_set_new _,CL F.entry_set_new ?_⟩));rw[C3 F.plain_set_new _];unfold Builtin.«set.__new__» Builtin.Frozenset.newClass;have Mu:=sub_set_self;obtain⟨hp,g,d,tk,os⟩:=s;dsimp only
 wp_walk
 refine DI (A3 ?_);dsimp only;simp only[newObj];refine A0 (wpAny_alloc (A3 ?_));exact A3 h
set_option maxHeartbeats 3200000 in
theorem Ej {l:OZ}{items:Array MR}{Q:MR->OY->Prop}
  (hh:A.handled=none) (hu:A.units+8<cLine) (hl:s.heap.IsList l items) {xs:O4 (O4 Int)} (hxs:∀i,i<items.size->xs[i]? =some (kk i)) (hxl:xs.length=items.size) (Lm:stE (.fresh 0 0 (!w.params.followText "set-order"), #[]) xs=some y)
  (hk:∀i,i<items.size->items[i]? =some (.ref (ad i))/\IsTupleKey (intKind prog w) s.heap (kk i) (ad i))
  (h:∀(h':O6) (tk:Nat) (es:Array (Int×MR)),dZ h' s.heap.objs.size y.1 es->EsK kk ad items.size es y.2->
   (∀b o,b<s.heap.objs.size->s.heap.get? b=some o->h'.get? b=some o)->Q (.ref s.heap.objs.size) {s with heap:=h',toks:=tk}):
  wpAny (model prog w) A (call (.type "set") [.ref l]) Q E s:=by
 obtain⟨c,tl,hmro⟩:=Cn.mro;have hmade:=Cn.made;have Mu:=Cn.sub;refine wpAny_call (codeAny_of_tree ?_);show wpAny _ _ (callAny (.type "set") _) _ _ _;refine A3 ⟨Code.quiet_builtin _ (by ac_nf),CL F.entry_type_call ?_⟩;rw[Around.under_plain (weight_type_call_type "set" [.ref l] []) rfl];have h1:=Cn.notType;have h2:=Cn.canCreate;have hct:=F.typeCall_set_1 (.ref l)
 repeat (any_goals (first|assumption|wp_step))
 refine codeAny_mono (Ei (.ref l) (E:=E) (Q₁:=fun obj s₁=>obj= .ref s.heap.objs.size/\s₁={s with heap:=s.heap.push {cls:= .type "set",dict:=none,data:= .set #[] 0 (.fresh 0 0 (!w.params.followText "set-order"))}}) ⟨rfl,rfl⟩) fun r s₁ hr=> ?_;generalize (!w.params.followText "set-order")=led at Lm hr;cases r with
 |error e=>exact hr
 |ok fl=>
  cases fl with
  |ret obj=>
   obtain⟨rfl,rfl⟩:=hr;have hS:(s.heap.push {cls:= .type "set",dict:=none,data:= .set #[] 0 (.fresh 0 0 led)}).get? s.heap.objs.size=some {cls:= .type "set",dict:=none,data:= .set #[] 0 (.fresh 0 0 led)}:=AI _ rfl;have hT:Shared.TypeIs {s with heap:=s.heap.push {cls:= .type "set",dict:=none,data:= .set #[] 0 (.fresh 0 0 led)}} (.ref s.heap.objs.size) "set":=⟨_,hS,rfl⟩;have Mf:=Cn.init.lookup;have hbi:=Cn.init.bind (.ref s.heap.objs.size)
   repeat (any_goals (first|assumption|wp_step))
   refine codeAny_mono (codeAny_call_builtin (R:=wants (fun r s₂=>r= .none/\∃h' tk es,s₂={s with heap:=h',toks:=tk}/\
     dZ h' s.heap.objs.size y.1 es/\EsK kk ad items.size es y.2/\
     (∀b o,b<s.heap.objs.size->s.heap.get? b=some o->h'.get? b=some o)) E) Cn.init.plain F.entry_set_init (check_set_init_1 hT ?_)) fun r₂ s₂ hr₂=> ?_
   .obtain⟨ol,hol,hcl,nl,hdl⟩:=hl;obtain⟨ocls,odict,odata,Ou⟩:=ol;simp only at hcl hdl;subst hcl;subst hdl;have hol':(s.heap.push {cls:= .type "set",dict:=none,data:= .set #[] 0 (.fresh 0 0 led)}).get? l=some {cls:= .type "list",dict:=odict,data:= .seq items nl,slots:=Ou}:=A4 _ hol;have hsls:=F.sub_list_set;have hslf:=F.sub_list_frozenset;have Kt:(Value.type "list"==Value.type "dict")=false:=by decide
    have LD:(s.heap.push {cls:= .type "set",dict:=none,data:= .set #[] 0 (.fresh 0 0 led)}).IsList l items:=⟨_,hol',rfl,nl,rfl⟩;unfold Builtin.«set.__init__» noKeywords Builtin.Frozenset.updateFrom;generalize hPI:pyIter=PI
    wp_walk
    subst hPI;refine wpAny_pyIter_list LD ?_;refine A0 (wpAny_runValue ?_);have hlS:l<s.heap.objs.size:=AM hol;have hh3:A.in1.in1.in1.handled=none:=by simp[hh]
    have hneI:l≠(s.heap.push {cls:= .type "set",dict:=none,data:= .set #[] 0 (.fresh 0 0 led)}).objs.size:=by
     rw[B4];exact AT (Ak hlS)
    have hSf:s.heap.objs.size∉[(s.heap.push {cls:= .type "set",dict:=none,data:= .set #[] 0 (.fresh 0 0 led)}).objs.size,l]:=by
     rw[B4];simp only[AJ,AY,As,Bq,not_or];exact⟨AT (BW _),Be hlS⟩
    refine Eh ((Walks.list hh3 _ l hneI items).toS) s.heap.objs.size
     hSf ?hu kk ad ?hval ?hwr hxs (sL Lm) (items.size-0) 0 _ #[] _ (by lia) (AQ _)
     ⟨⟨_,AI _ rfl,rfl,rfl⟩,(LD.push _)⟩ ?hS0 ?hE0 rfl ?hkk ?hR
    case hu=>show A.units+3<cLine;lia
    case hval=>
     intro i v hv;have hi:i<items.size:=sJ hv;rw[(hk i hi).1,Option.some.injEq] at hv;exact hv.symm
    case hwr=>
     intro i hi;obtain⟨o,_,_,ho,_⟩:=(hk i hi).2;have:=AM ho;rw[B4];simp only[AJ,As,Bq];exact AT (Ak this)
    case hS0=>exact⟨_,A4 _ hS⟩
    case hE0=>exact⟨rfl,fun i k e=>by simp at e⟩
    case hkk=>exact fun j hj=>mf (hk j hj).2 fun o e=>A4 _ (A4 _ e)
    case hR=>
     intro s' KL y' hm NA ek' Lk;rw[<-hxl,AR,Lm] at Lk;cases Lk;obtain⟨h',g',d',tk',Oc⟩:=s';have eg:g'=s.gens:=hm.gens;have ed:d'=s.drawn:=hm.drawn;have eo:Oc=s.os:=hm.os;subst eg;subst ed;subst eo;show wpAny _ _ _ _ _ _;refine A3 ?_;show wpAny _ _ (ret Value.none) _ _ _;refine A3 ⟨rfl,h',tk',KL,rfl,NA,ek',fun b o hb e=> ?_⟩;have hb1:b≠s.heap.objs.size:=AT hb;have hb2:b≠(s.heap.push {cls:= .type "set",dict:=none,data:= .set #[] 0 (.fresh 0 0 led)}).objs.size:=by
      rw[B4];exact AT (Ak hb)
     exact hm.heap b o (by simp only[AJ,AY,As,Bq,not_or];exact⟨hb1,hb2⟩) (A4 _ (A4 _ e))
   .cases r₂ with
    |error e=>exact hr₂
    |ok fl₂=>
     cases fl₂ with
     |ret r=>
      obtain⟨rfl,h',tk,es,rfl,NA,ek',Mr⟩:=hr₂
      repeat (any_goals (first|assumption|wp_step))
      exact h _ _ _ NA ek' Mr
     |_=>exact hr₂.elim
  |_=>exact hr.elim
end
theorem Ek:entryFor table "set.__iter__"=some Builtin.«frozenset.__iter__»:=
 entryFor_alias (id':="frozenset.__iter__") (by kernel_rfl) rfl (by ac_nf) (by kernel_rfl)
theorem sS:Slot "set_iterator" "__iter__" "set_iterator.__iter__":=
 .of (owner:="set_iterator") (n:="__iter__") (by rw[typeLookup_type,builtinLookup_eq_fast];kernel_rfl) (by ac_nf) (by ac_nf) (by ac_nf)
  (by first|exact .inl (by ac_nf)|exact .inr (by ac_nf)) (by rw[isSubtype_type];kernel_rfl)
theorem El:entryFor table "set_iterator.__iter__"=some Builtin.«dict_keyiterator.__iter__»:=
 entryFor_alias (id':="dict_keyiterator.__iter__") (by kernel_rfl) rfl (by ac_nf) (by kernel_rfl)
theorem Em (a:MR):argsOk "set_iterator.__iter__" ⟨[a],[]⟩:=by unfold argsOk;kernel_rfl
theorem gM:Slot "set_iterator" "__next__" "set_iterator.__next__":=
 .of (owner:="set_iterator") (n:="__next__") (by rw[typeLookup_type,builtinLookup_eq_fast];kernel_rfl) (by ac_nf) (by ac_nf) (by ac_nf)
  (by first|exact .inl (by ac_nf)|exact .inr (by ac_nf)) (by rw[isSubtype_type];kernel_rfl)
theorem sU:entryFor table "set_iterator.__next__"=some Builtin.«set_iterator.__next__»:=entryFor_of_tree (by kernel_rfl)
theorem sV (a:MR):argsOk "set_iterator.__next__" ⟨[a],[]⟩:=by unfold argsOk;kernel_rfl
theorem sW {α:Type}:∀(l:O4 α) (i:Nat) (h:i<l.length),([l[i]]++l.eraseIdx i).Perm l
 |[],i,h=>absurd h (by simp)
 |a::l,0,h=>by simp
 |a::l,i+1,h=>by
  have hi:i<l.length:=by simpa using h
  have:=sW l i hi;simp only[List.getElem_cons_succ,List.eraseIdx_cons_succ,List.singleton_append] at this⊢;exact(List.Perm.swap a l[i] _).trans (this.cons a)
theorem sX {α:Type} (next:Nat->Nat):∀(f k:Nat) (left:O4 α) (KA:Array α),left.length=f->(pickOrder.go next f k left KA).toList.Perm (KA.toList++left)
 |0,k,left,KA,e=>by
  have:left=[]:=CN.mp e;subst this;unfold pickOrder.go;simp
 |f+1,k,left,KA,e=>by
  have hp:next k%left.length<left.length:=Nat.mod_lt _ (by lia);unfold pickOrder.go;rw[A2 hp];dsimp only;refine(sX next f (k+1) _ _ (by rw[List.length_eraseIdx_of_lt hp];lia)).trans ?_;rw[Array.toList_push,BE];refine List.Perm.append_left _ ?_;exact sW left _ hp
theorem En {α:Type} (next:Nat->Nat) (xs:Array α):(pickOrder next xs).toList.Perm xs.toList:=by
 unfold pickOrder;simpa using sX next xs.size 0 xs.toList #[] (by simp)
def eX (w:O2) (a:OZ) (ep:Nat) (es:Array (Int×MR)):Array (Int×MR):=if w.params.followText "set-order" then pickOrder (w.params.setOrder a ep) es else es
theorem sY (w:O2) (a:OZ) (ep:Nat) (es:Array (Int×MR)):(eX w a ep es).toList.Perm es.toList:=by
 unfold eX;split
 .exact En _ _
 .exact List.Perm.refl _
theorem mh (w:O2) (a:OZ) (ep:Nat) (es:Array (Int×MR)):(eX w a ep es).size=es.size:=by
 have:=(sY w a ep es).length_eq;simpa using this
def bK (w:O2) (t:SetTable) (i:Nat):Nat:=if w.params.followText "set-order" then 0 else if i=0 then 0 else t.place.getD (i-1) 0+1
theorem sZ (r:Ris xs) {j:Nat} (hp:p<=xs.size) (h1:∀i,i<p->xs.getD i 0<j) (h2:∀i,p<=i->i<xs.size->j<=xs.getD i 0):below xs j=p:=by
 obtain⟨a1,a2,a3⟩:=Eb r j;rcases Nat.lt_trichotomy (below xs j) p with c|c|c
 .have:=h1 _ c;have:=a3 _ (AB _) (by lia);lia
 .exact c
 .have:=a2 _ c;have:=h2 p (AB _) (by lia);lia
theorem Eo {t:SetTable} (r:Ris t.place) (hi:i<=t.place.size):below t.place (if i=0 then 0 else t.place.getD (i-1) 0+1)=i:=by
 by_cases z:i=0
 .subst z;exact sZ r (AQ _) (fun i h=>absurd h (by lia)) fun i _ _=>AQ _
 .rw [A6 z];refine sZ r hi (fun j hj=> ?_) fun j h1 h2=> ?_
  .rcases C4 j (i-1) with c|c
   .have:=r j (i-1) c (by lia);lia
   .have:j=i-1:=by lia
    subst this;lia
  .have:=r (i-1) j (by lia) h2;lia
section
variable {prog:O0}{w:O2}{A:O3}{E:MR->OY->Prop}{s:OY}
def Ep (a:Addr) (slot given epochThen:Nat):setNext a slot given epochThen=(do
  let (es,epoch,t)<-setState a
  if<-setsByText then
   if epoch !=epochThen then unsupported "set_iterator.__next__:elements-changed"
   return ((<-setWalk a)[given]?).map fun e=>(e.2,slot)
  if !t.plain&&es.size>1 then unsupported "set_iterator.__next__:the-table-is-plain-no-more"
  (do if !t.led&& !es.isEmpty then unsupported "set:maker-not-led":Sem Unit)
  let i:=SetTable.below t.place slot
  return match es[i]?,t.place[i]? with
   |some (_,x),some j=>some (x,j+1)
   |_,_=>none):=rfl
theorem tj {es:Array (Int×MR)}{ep:Nat}{t:SetTable}{i:Nat}{Q:O7 (MR×Nat)->OY->Prop}
  (ho:s.heap.get? S=some {cls:= .type "set",dict:=none,data:= .set es ep t}) (b:Tb t es) (hs:es.size<=t.mask) (hl:t.led= !w.params.followText "set-order") (hp:t.plain=true) (hi:i<=es.size)
  (h:Q (((eX w S ep es)[i]?).map fun e=>(e.2,bK w t (i+1))) s):wpAny (model prog w) A (setNext S (bK w t i) i ep) Q E s:=by
 have hf:=jR b hs;rw[Ep];refine A0 (BR ho rfl hf ?_);dsimp only;unfold setsByText;refine A0 (A0 (DI (A3 ?_)));show wpAny _ _ (if(w.params.followText "set-order")=true then _ else _) _ _ s;unfold eX bK at h;unfold bK;cases ht:w.params.followText "set-order" with
 |true=>
  rw[ht] at h;simp only[C1] at h⊢;simp only[Cr,AG,Am];unfold setWalk;refine A0 (A0 (BR ho rfl hf ?_));dsimp only;unfold setsByText;refine A0 (A0 (DI (A3 ?_)));show wpAny _ _ (if(w.params.followText "set-order")=true then _ else _) _ _ s;rw[ht];simp only[C1];refine A0 (DI (A3 ?_));exact A3 h
 |false=>
  rw[ht] at h hl;simp only[AG,Am] at h⊢;rw[hp,hl];simp only[B8,Cb,Cw,AG,Am];refine A0 (A3 ?_);rw[Eo b.ris (by rw[b.size];exact hi)];refine A3 ?_;rcases C4 i es.size with c|c
  .have c':i<t.place.size:=by rw[b.size];exact c
   have e2:t.place.getD (i+1-1) 0=t.place[i]:=by simp[Array.getD,c']
   rw[Ah c] at h⊢;rw[Ah c'];rw[A6 (by lia),e2] at h;exact h
  .rw [BM c] at h⊢;exact h
def ee (h:O6) (it S:OZ) (slot i n ep:Nat):Prop:=∃o,h.get? it=some o/\o.cls= .type "set_iterator"/\o.data= .fields #[.int slot 0, .int i 0, .ref S, .int n 0, .int ep 0]
def ee.typeIs (x:ee s.heap it S slot i n ep):s.TypeIs (.ref it) "set_iterator":=let ⟨o,ho,hc,_⟩:=x;⟨o,ho,hc⟩
def ee.mv (x:ee h it S slot i n ep) (e:∀o,h.get? it=some o->h'.get? it=some o):ee h' it S slot i n ep:=let ⟨o,ho,r⟩:=x;⟨o,e _ ho,r⟩
theorem Er {es:Array (Int×MR)}{ep:Nat}{t:SetTable}{Q:MR->OY->Prop}
  (ho:s.heap.get? S=some {cls:= .type "set",dict:=none,data:= .set es ep t}) (b:Tb t es) (hs:es.size<=t.mask) (hp:t.plain=true)
  (h:Q (.ref s.heap.objs.size) {s with heap:=s.heap.push {cls:= .type "set_iterator",data:= .fields #[.int (bK w t 0:Nat) 0, .int (0:Nat) 0, .ref S, .int es.size 0, .int ep 0]}}):
  wpAny (model prog w) A (pyIter (.ref S)) Q E s:=by
 have hT:s.TypeIs (.ref S) "set":=⟨_,ho,rfl⟩;have hf:=jR b hs;refine wpAny_pyIter_slot hT F.slot_set_iter (Ai F.slot_set_iter hT Ek ?_ (F.args_set_iter_1 _));unfold Builtin.«frozenset.__iter__» Builtin.Frozenset.slot0 slotArgs;simp only[List.isEmpty_nil,B8,AG,↓reduceIte,bind_assoc,List.length_nil,Cr];unfold Builtin.Frozenset.addrOf Builtin.Frozenset.sizeOf setEntries;refine A0 (A3 ?_);try dsimp only
 refine A0 (A3 ?_);refine A0 (A0 (A0 (BR ho rfl hf (A3 (A3 ?_)))));have hdr:∀{Q':Bool->OY->Prop},Q' false s->wpAny (model prog w) A.in1 (setDrawn S) Q' E s:=by
  intro Q' q;unfold setDrawn;refine A0 (BR ho rfl hf ?_);dsimp only;unfold setsByText;refine A0 (A0 (DI (A3 ?_)));refine A3 ?_;have:(!t.plain&&decide (es.size>1))=false:=by rw[hp];rfl
  show Q' (!w.params.followText "set-order"&&(!t.plain&&decide (es.size>1))) s;rw[this,C9];exact q
 refine A0 (hdr ?_);simp only[AG,Am];refine A0 (A3 ?_);refine A0 (wpAny_setEpoch_of ho rfl hf ?_);unfold newFields;refine A0 (Au (A3 ⟨_,rfl,"set_iterator",_,⟨_,AI _ rfl,rfl⟩,gM.lookup, ?_⟩));have e0:bK w t 0=0:=by unfold bK;split<;>rfl
 rw[e0] at h;simpa[rawInt] using h
def tq {vs:Array MR} (ho:h.get? a=some o) (hd:o.data= .fields vs) (f:Array MR->Array MR):
  ∃o',(h.update a (Obj.mapFields f)).get? a=some o'/\o'.cls=o.cls/\o'.data= .fields (f vs):=
 ⟨_,CK _ ho (DH (C0 hd _)),Obj.cls_mapFields ..,C0 hd _⟩
theorem Es {t:SetTable}{e:Int×MR}{Q:O7 MR->OY->Prop} (Kj:ee s.heap it S (bK w t i) i es.size ep)
  (ho:s.heap.get? S=some {cls:= .type "set",dict:=none,data:= .set es ep t}) (b:Tb t es) (hs:es.size<=t.mask) (hl:t.led= !w.params.followText "set-order") (hp:t.plain=true) (hi:i<es.size)
  (he:(eX w S ep es)[i]? =some e) (hQ:∀h',ee h' it S (bK w t (i+1)) (i+1) es.size ep->Heap.SameBut it s.heap h'->Q (some e.2) {s with heap:=h'}):
  wpAny (model prog w) A (pyNext (.ref it)) Q E s:=by
 obtain⟨o,hoi,hc,hd⟩:=id Kj;have hf:=jR b hs;unfold pyNext;refine A0 (CO (B3 (name:=Str.ofString "__next__") Kj.typeIs gM
  (Ai gM Kj.typeIs sU ?_ (sV _))))
 show wpAny _ _ (fieldsOf (.ref it)>>=_) _ _ s;refine A0 (D' hoi hd ?_);dsimp only;unfold setEntries;refine A0 (A0 (BR ho rfl hf (A3 ?_)));dsimp only;rw[A6 (by simp)];simp only[An];refine A0 (tj ho b hs hl hp (Ae hi) ?_);rw[he];dsimp only[Option.map_some];refine A0 (CG hoi hd (by simp) ?_);obtain⟨o1,KN,hc1,hd1⟩:=tq hoi hd (·.setIfInBounds 0 (rawInt (bK w t (i+1):Nat)));have sb1:=BD s.heap it (Obj.mapFields (·.setIfInBounds 0 (rawInt (bK w t (i+1):Nat))));generalize s.heap.update it (Obj.mapFields (·.setIfInBounds 0 (rawInt (bK w t (i+1):Nat))))=h1 at KN sb1⊢;refine A0 (CG (s:={s with heap:=h1}) KN hd1 (by simp) ?_);obtain⟨o2,K5,LQ,Lw⟩:=tq KN hd1 (·.setIfInBounds 1 (rawInt ((i:Int)+1)));have NZ:=BD h1 it (Obj.mapFields (·.setIfInBounds 1 (rawInt ((i:Int)+1))));dsimp only;generalize h1.update it (Obj.mapFields (·.setIfInBounds 1 (rawInt ((i:Int)+1))))=h2 at K5 NZ⊢;refine A3 ⟨_,rfl,A3 (hQ _ ⟨o2,K5,by rw[LQ,hc1,hc], ?_⟩ (sb1.trans NZ))⟩;rw[Lw];simp[rawInt]
theorem Et {t:SetTable}{Q:O7 MR->OY->Prop} (hh:A.handled=none) (Kj:ee s.heap it S (bK w t es.size) es.size es.size ep)
  (ho:s.heap.get? S=some {cls:= .type "set",dict:=none,data:= .set es ep t}) (b:Tb t es) (hs:es.size<=t.mask) (hl:t.led= !w.params.followText "set-order") (hp:t.plain=true)
  (hQ:∀h',Heap.ExtBut it s.heap h'->Q none {s with heap:=h'}):
  wpAny (model prog w) A (pyNext (.ref it)) Q E s:=by
 obtain⟨o,hoi,hc,hd⟩:=id Kj;have hf:=jR b hs;unfold pyNext;refine A0 (CO (B3 (name:=Str.ofString "__next__") Kj.typeIs gM
  (Ai gM Kj.typeIs sU ?_ (sV _))))
 show wpAny _ _ (fieldsOf (.ref it)>>=_) _ _ s;refine A0 (D' hoi hd ?_);dsimp only;unfold setEntries;refine A0 (A0 (BR ho rfl hf (A3 ?_)));dsimp only;rw[A6 (by simp)];simp only[An];refine A0 (tj ho b hs hl hp (AB _) ?_);rw[BM (by rw[mh];exact AB _)];dsimp only[Option.map_none];refine A0 (CG hoi hd (by simp) ?_);show wpAny _ _ (newExc (.type "StopIteration") []>>=_) _ _ _;refine A0 ?_;simp only[newExc,newTuple];refine A0 (Au ?_ (by size_fits));refine A0 (m:=firstArgMember _ _) (DL (a:=Value.none) (by first|rfl|(simp only[firstArgMember];rfl)) ?_);refine Au ?_ (by size_fits);simp -iota only[raiseNew];refine A0 (wpAny_handled ?_);rw[show A.in1.handled=none from hh];refine A0 (A3 (wpAny_throw ?_));refine A0 (Bo (T:="StopIteration") (b:=true) ⟨_,AI _ rfl,rfl⟩ isSubtype_stop ?_);exact A3 (hQ _ (((BD ..).extBut.push _).push _))
theorem Eu (hh:A.handled=none) (I S:OZ) (Kt:S≠I) {t:SetTable} (b:Tb t es) (hs:es.size<=t.mask) (hl:t.led= !w.params.followText "set-order") (hp:t.plain=true):
  Walks prog w A I [I,S] [I] es.size (fun i v=>∃e,(eX w S ep es)[i]? =some e/\v=e.2) (fun i h=>ee h I S (bK w t i) i es.size ep/\h.get? S=some {cls:= .type "set",dict:=none,data:= .set es ep t}) where
 sub:=fun b hb=>by simp at hb;simp[hb]
 frame:=fun _ _ _ st hk=>⟨st.1.mv fun o e=>hk I (by simp) o e,hk S (by simp) _ st.2⟩
 item:=fun i s Q E hi st hQ=>by
  have Lq:i<(eX w S ep es).size:=by rw[mh];exact hi
  refine Es st.1 st.2 b hs hl hp hi (Ah Lq) fun h' Ma hs'=> ?_;exact hQ _ h' s.toks ⟨_,Ah Lq,rfl⟩ ⟨Ma,hs'.extBut S _ Kt st.2⟩ fun b o hb e=>hs'.extBut b o (fun h=>hb (by simp[h])) e
 done:=fun s Q E st hQ=>Et hh st.1 st.2 b hs hl hp fun h' Ny=>hQ h' s.toks fun b o hb e=>Ny b o (fun h=>hb (by simp[h])) e
 self:=fun _ s _ _ st hQ=>by
  refine wpAny_pyIter_slot st.1.typeIs sS (Ai sS st.1.typeIs El ?_ (Em _));show wpAny _ _ (ret (.ref I)) _ _ s;exact A3 ⟨_,rfl,"set_iterator",_,st.1.typeIs,gM.lookup,hQ⟩
end
open PySem.W
section
variable {prog:O0}{w:O2}{A:O3}{E:MR->OY->Prop}{s:OY}
theorem Ev {es:Array (Int×MR)}{ep:Nat}{t:SetTable}{Q:O4 MR->OY->Prop} (hh:A.handled=none)
  (ho:s.heap.get? S=some {cls:= .type "set",dict:=none,data:= .set es ep t}) (b:Tb t es) (hs:es.size<=t.mask) (hl:t.led= !w.params.followText "set-order") (hp:t.plain=true)
  (hQ:∀h' tk vs,(∀b o,s.heap.get? b=some o->h'.get? b=some o)->s.heap.objs.size<=h'.objs.size->vs.Perm (es.toList.map (·.2))->Q vs {s with heap:=h',toks:=tk}):
  wpAny (model prog w) A (collect (.ref S)) Q E s:=by
 unfold collect;refine A0 (wpAny_runValue (CL F.entry_proto_collect ?_));rw[C3 F.plain_proto_collect _];show wpAny _ A.in1 (newList []>>=fun l=>again (.builtin "list.__iadd__" ⟨[l, .ref S],[]⟩)) _ _ s;refine A0 (Au ?_);refine A3 ⟨DK F.plain_list_iadd _,CL F.entry_list_iadd ?_⟩;rw[C3 F.plain_list_iadd _];show wpAny _ A.in1 (Builtin.List.listExtendWith (.ref s.heap.objs.size) (.ref S) (.ref s.heap.objs.size)) _ _ _;have hS:S<s.heap.objs.size:=AM ho;have KN:(s.heap.push {cls:= .type "list",data:= .seq ([]:O4 MR).toArray}).get? S=some {cls:= .type "set",dict:=none,data:= .set es ep t}:=A4 _ ho;have hT:Shared.TypeIs {s with heap:=s.heap.push {cls:= .type "list",data:= .seq ([]:O4 MR).toArray}} (.ref S) "set":=⟨_,KN,rfl⟩;unfold Builtin.List.listExtendWith;refine A0 (DW hT ?_);have h1:Builtin.List.listSameRef (.ref s.heap.objs.size) (.ref S)=false:=by
  show(s.heap.objs.size==S)=false;exact DF.mpr (Be hS)
 have h2:(Value.type "set"==Value.type "list")=false:=by decide
 have h3:(Value.type "set"==Value.type "tuple")=false:=by decide
 simp only[h1,h2,h3,Bool.or_false,AG,Am];refine A0 (Er KN b hs hp ?_);refine A0 (Az ?_);unfold Builtin.List.listLengthHint;generalize hH:s.heap.push {cls:= .type "list",data:= .seq ([]:O4 MR).toArray}=H at KN hT⊢;have hHs:H.objs.size=s.heap.objs.size+1:=by rw[<-hH,B4]
 have Ol:Shared.TypeIs {s with heap:=H.push {cls:= .type "set_iterator",data:= .fields #[.int (bK w t 0:Nat) 0, .int (0:Nat) 0, .ref S, .int es.size 0, .int ep 0]}} (.ref S) "set":=⟨_,A4 _ KN,rfl⟩;refine A0 (Bv Ol F.slot_set_len.lookup ?_)
 wp_delta
 refine A0 (Bo (b:=true) Ol (by rw[isSubtype_type];kernel_rfl) ?_);show wpAny _ A.in1 (typeOf (.ref S)>>=_) _ _ _;refine A0 (DW Ol ?_);refine A3 ?_;rw[A8 (by decide)];refine A0 (Bz ?_);unfold Builtin.List.listTouch;have Kt:S≠H.objs.size:=by rw[hHs];exact AT (Ak hS)
 have hI0:ee (H.push {cls:= .type "set_iterator",data:= .fields #[.int (bK w t 0:Nat) 0, .int (0:Nat) 0, .ref S, .int es.size 0, .int ep 0]}) H.objs.size S (bK w t 0) 0 es.size ep:=⟨_,AI _ rfl,rfl,rfl⟩;have hL:(H.push {cls:= .type "set_iterator",data:= .fields #[.int (bK w t 0:Nat) 0, .int (0:Nat) 0, .ref S, .int es.size 0, .int ep 0]}).get? s.heap.objs.size=some (seqObj "list" #[] 0):=A4 _ (hH▸AI _ rfl);have hS2:(H.push {cls:= .type "set_iterator",data:= .fields #[.int (bK w t 0:Nat) 0, .int (0:Nat) 0, .ref S, .int es.size 0, .int ep 0]}).get? S=some {cls:= .type "set",dict:=none,data:= .set es ep t}:=A4 _ KN;have hold:∀b o,s.heap.get? b=some o->(H.push {cls:= .type "set_iterator",data:= .fields #[.int (bK w t 0:Nat) 0, .int (0:Nat) 0, .ref S, .int es.size 0, .int ep 0]}).get? b=some o:=fun b o e=>A4 _ (hH▸A4 _ e);have hsz:(H.push {cls:= .type "set_iterator",data:= .fields #[.int (bK w t 0:Nat) 0, .int (0:Nat) 0, .ref S, .int es.size 0, .int ep 0]}).objs.size=s.heap.objs.size+2:=by rw[B4,hHs]
 generalize H.push {cls:= .type "set_iterator",data:= .fields #[.int (bK w t 0:Nat) 0, .int (0:Nat) 0, .ref S, .int es.size 0, .int ep 0]}=H1 at hI0 hL hS2 hold hsz⊢;refine A0 (A0 (Cm (s:={s with heap:=H1}) hL rfl ?_ (AQ _) (by decide)));have hL1:=Cg hL (fun x=>x.push Value.none);have KR:∀b,b≠s.heap.objs.size->(H1.update s.heap.objs.size (Obj.mapSeq fun x=>x.push Value.none)).get? b=H1.get? b:=(BD H1 s.heap.objs.size _).2;dsimp only;generalize H1.update s.heap.objs.size (Obj.mapSeq fun x=>x.push Value.none)=H2 at hL1 KR⊢;refine Cm (s:={s with heap:=H2}) hL1 rfl ?_ (by simp[Av]) (by simp);have hL2:=Cg hL1 (fun x=>x.pop);have Lj:∀b,b≠s.heap.objs.size->(H2.update s.heap.objs.size (Obj.mapSeq fun x=>x.pop)).get? b=H2.get? b:=(BD H2 s.heap.objs.size _).2;dsimp only;generalize H2.update s.heap.objs.size (Obj.mapSeq fun x=>x.pop)=H3 at hL2 Lj⊢;have Oo:∀b o,b≠s.heap.objs.size->H1.get? b=some o->H3.get? b=some o:=fun b o hb e=>by rw[Lj b hb,KR b hb];exact e
 have hSf:s.heap.objs.size∉[H.objs.size,S]:=by
  rw[hHs];simp only[AJ,As,Bq,not_or];exact⟨AT (BW _),Be hS⟩
 have hSn:S≠s.heap.objs.size:=AT hS;have hHn:H.objs.size≠s.heap.objs.size:=by rw[hHs];exact Be (BW _)
 refine A3 ⟨DK F.plain_extend_loop _,codeAny_extend_loopS (Eu (A:=A.in1) (ep:=ep) hh H.objs.size S Kt b hs hl hp).toS ?_ _ hSf _ es.size 0 _ _ _ rfl (AQ _) ⟨hI0.mv fun o e=>Oo _ o hHn e,Oo S _ hSn hS2⟩ hL2 (ItemsOf.nil _) fun s' Ov c' hm NA Kc=> ?_⟩
 .have:=b.few;rw[Av];lia
 show wpAny _ A (load s.heap.objs.size>>=_) _ _ s';refine A0 (wpAny_load NA ?_);obtain⟨h',g',d',tk',Oc⟩:=s';have eg:g'=s.gens:=hm.gens;have ed:d'=s.drawn:=hm.drawn;have eo:Oc=s.os:=hm.os;subst eg;subst ed;subst eo;refine A3 (hQ h' tk' Ov.toList (fun b o e=> ?_) (Ae (AM NA)) ?_)
 .have Kf:=AM e;refine hm.heap b o (fun hb=> ?_) (Oo b o (AT Kf) (hold b o e));simp only[AJ,As,Bq] at hb;rcases hb with hb|hb
  .exact absurd Kf (by rw[hb];exact C6 _)
  .rw [hb,hHs] at Kf;exact absurd Kf (Nat.not_lt.mpr (DB _))
 .have:Ov.toList=(eX w S ep es).toList.map (·.2):=by
   apply List.ext_getElem?;intro i;rw[AF,Bt,Bt];rcases C4 i es.size with c|c
   .have hi:i<Ov.size:=by rw[Kc.1];exact c
    obtain⟨e,he,hv⟩:=Kc.2 i _ (Ah hi);rw[Ah hi,hv,he];rfl
   .rw [BM (by rw[Kc.1];exact c),BM (by rw[mh];exact c)];rfl
  rw[this];exact(sY w S ep es).map _
abbrev lsH (h:O6) (vs:O4 MR):O6:=h.push (seqObj "list" vs.toArray 0)
def iQ (h:O6) (vs:O4 MR):(lsH h vs).get? h.objs.size=some (seqObj "list" vs.toArray 0):=AI _ rfl
theorem mi (hb:h.get? b=some o):(bj (lsH h vs) h.objs.size vs).get? b=some o:=by
 have Kf:b<h.objs.size:=AM hb;have n0:b≠h.objs.size:=AT Kf;have n1:b≠h.objs.size+1:=AT (Ak Kf);have n2:b≠h.objs.size+1+1:=AT (Ak (Ak Kf));rw[BB _ _ _ (by rw[C5,BA,C5];exact n2),BB _ _ _ (by rw[BA,C5];exact n1),DV _ _ _ _ n0,BB _ _ _ n0];exact hb
theorem tw {KA:Array MR}(hb:h.get? b=some o):(sortedHeap (lsH h vs) h.objs.size vs KA).get? b=some o:=by
 unfold sortedHeap;rw[DV _ _ _ _ (AT (AM hb))];exact mi hb
theorem tz (h:O6) (vs:O4 MR) (KA:Array MR):∃e,(sortedHeap (lsH h vs) h.objs.size vs KA).get? h.objs.size=some (seqObj "list" KA e):=by
 obtain⟨e1,KN⟩:∃e1,((lsH h vs).update h.objs.size (Obj.mapSeq fun _=>(#[]:Array MR))).get? h.objs.size=some (seqObj "list" #[] e1):=⟨_,Cg (iQ h vs) (fun _=> #[])⟩;have MC:(bj (lsH h vs) h.objs.size vs).get? h.objs.size=some (seqObj "list" #[] e1):=by
  rw[BB _ _ _ (by rw[C5,BA,C5];exact AT (Ak (BW _))),BB _ _ _ (by rw[BA,C5];exact AT (BW _))];exact KN
 exact⟨_,Cg MC (fun _=>KA)⟩
theorem Ew {v:MR}{gN:O4 MR->OY->Prop}{Q:MR->OY->Prop} (hcol:wpAny (model prog w) A.in1 (collect v) gN E s)
  (h:∀vs s1,gN vs s1->vs.length<64/\(vs.length<2->Q (.ref s1.heap.objs.size) {s1 with heap:=sortedHeap (lsH s1.heap vs) s1.heap.objs.size vs vs.toArray})/\
   (2<=vs.length->∃(c:Nat->Nat->Bool) (kd:SortKind),
    (∀(R:SortKind->OY->Prop) (E:MR->OY->Prop),R kd {s1 with heap:=bj (lsH s1.heap vs) s1.heap.objs.size vs}->wpAny (model prog w) A.in1.in1 (keyKind' vs.toArray) R E {s1 with heap:=bj (lsH s1.heap vs) s1.heap.objs.size vs})/\
    (∀i j,i<vs.length->j<vs.length->∀C:Bool->OY->Prop,C (c i j) {s1 with heap:=bj (lsH s1.heap vs) s1.heap.objs.size vs}->wpAny (model prog w) A.in1.in1 (keyLt' kd (vs.getD i .none) (vs.getD j .none)) C (fun _ _=>False) {s1 with heap:=bj (lsH s1.heap vs) s1.heap.objs.size vs})/\
    ∀p,Ord vs.length p->p=aW c (kas_sort vs.length)->Q (.ref s1.heap.objs.size) {s1 with heap:=sortedHeap (lsH s1.heap vs) s1.heap.objs.size vs (p.map fun i=>vs.getD i .none)})):
  wpAny (model prog w) A (call (.builtin "sorted") [v]) Q E s:=by
 refine Calls.call_function_entry kind_sorted plain_sorted entry_sorted (args_sorted1 _) ?_;unfold Builtin.«sorted»;refine A0 (m:=checkCount "sorted" 1 1 _) (A3 ?_);refine A0 (thn hcol fun vs s1 g=> ?_);obtain⟨h64,few,LV⟩:=h vs s1 g;refine A0 (DJ ?_ (by rw[Av];lia));show wpAny _ _ _ _ _ {s1 with heap:=lsH s1.heap vs};by_cases h2:vs.length<2
 .refine A0 (Az (Ai slot_list_sort ⟨_,iQ s1.heap vs,rfl⟩ entry_list_sort (rG (s:={s1 with heap:=lsH s1.heap vs}) (iQ s1.heap vs) h2 ⟨_,rfl, ?_⟩) (args_list_sort _)));exact A3 ⟨_,rfl,few h2⟩
 .obtain⟨c,kd,Mb,hc,hq⟩:=LV (by lia);refine A0 (Az (Ai slot_list_sort ⟨_,iQ s1.heap vs,rfl⟩ entry_list_sort (Dy (c:=c) (s:={s1 with heap:=lsH s1.heap vs}) (iQ s1.heap vs) (by lia) h64 (fun R=>Mb R _) hc fun p hp hpc=>⟨_,rfl, ?_⟩) (args_list_sort _)));exact A3 ⟨_,rfl,hq p hp hpc⟩
end
section
variable {X:Cx}{J':O4 (OZ×Obj)}{σ:St}{H:Hp}{s:OY}
theorem tD:∀{xs:O4 Int}{vs:O4 MR},au (xs.map V.int) vs->∀(prog:O0) (w:O2),ItemsAre (intKind prog w) xs vs
 |[],_, .nil,_,_=> .nil
 |x::xs,_, .cons r1 r2,prog,w=>by
  obtain⟨t,rfl⟩:=r1;exact .cons (intKind_is prog w x t) (tD r2 prog w)
theorem Ex (I:Inv X J' σ H s) {xs:O4 Int} (h:SqT X.K H a (xs.map V.int)):IsTupleKey (intKind X.prog X.w) s.heap xs a:=by
 obtain⟨Kd,r,p,z⟩:=I.tuple h;obtain⟨o,ho,hc,n,hd⟩:=p;exact⟨o,_,n,ho,hc,hd,tD r _ _⟩
theorem Ey {A:O3}{k:Nat} (hr:Room k A):A.units+8<cLine:=Nat.lt_of_le_of_lt (Nat.add_le_add_left (by decide:8<=64) _) hr.units
def ssB (xss:O4 (O4 Int)):Bool:=[true,false].all fun led=>match stE (.fresh 0 0 led, #[]) xss with
 |some y=>y.1.fits y.2.size&&decide (y.1.dummies= #[])&&decide (y.1.place.toList.Pairwise (· < ·))&&(y.1.led==led)&&y.1.plain&&decide (y.2.size<=y.1.mask)&&decide (y.2.size<64)&&decide y.2.toList.Nodup&&y.2.toList.all (xss.contains ·)&&xss.all (y.2.toList.contains ·)
 |none=>false
theorem Ez (h:ssB xss=true) (led:Bool):∃y,stE (.fresh 0 0 led, #[]) xss=some y/\(∀es:Array (Int×MR),es.size=y.2.size->Tb y.1 es)/\y.1.led=led/\y.1.plain=true/\y.2.size<=y.1.mask/\y.2.size<64/\y.2.toList.Nodup/\∀z,z∈y.2.toList↔z∈xss:=by
 have h:=AS.mp h led (by cases led<;>simp)
 generalize stE (.fresh 0 0 led, #[]) xss=r at h⊢;cases r with
 |none=>cases h
 |some y=>
  simp only[A9,AU,AS,List.contains_iff_mem,DO] at h;obtain⟨⟨⟨⟨⟨⟨⟨⟨⟨h1,h2⟩,h3⟩,h4⟩,h5⟩,h6⟩,h7⟩,h8⟩,h9⟩,h10⟩:=h;refine⟨y,rfl,fun es e=>⟨?_,h2,fun i j LS hj=> ?_,by lia⟩,h4,h5,h6,h7,h8,fun z=>⟨h9 z,h10 z⟩⟩
  .unfold SetTable.fits at h1;simp only[A9,DO] at h1;rw[h1.1,e]
  .have:=List.pairwise_iff_getElem.mp h3 i j (by simp;lia) (by simpa using hj) LS;simpa[Array.getD,hj,Nat.lt_trans LS hj] using this
inductive rSSet (vs:List V) (H:Hp) (Q:VK):Prop
 |mk (v:V) (xss:List (List Int)) (m:Nat):vs=[v]->Is H (.l (xss.map tI)) v->0<m->((∀xs∈xss,xs.length=m))->ssB xss=true->(∀(Lb:List (List Int)) (q:Addr) (H':Hp),Lb.Nodup->(∀z,z∈Lb↔z∈xss)->(∀i j,i<j->j<Lb.length->ltI (Lb.getD j []) (Lb.getD i [])=false)->H q=none->ae H H'->Is H' (.l (Lb.map tI)) (.ref q)->Q (.ref q) H')->rSSet vs H Q
theorem EA (I:Inv X J' σ H s) {rs:O4 V}(hi:Iss H (xss.map tI) rs) (r':au rs vs) (hm:0<m) (NB:∀xs∈xss,xs.length=m) (Ke:xss.length<64) {Q:VK}
  (q:∀(Lb:O4 (O4 Int)) (q:OZ) (H':Hp),Lb.Perm xss->(∀i j,i<j->j<Lb.length->ltI (Lb.getD j []) (Lb.getD i [])=false)->H q=none->ae H H'->Is H' (.l (Lb.map tI)) (.ref q)->Q (.ref q) H') (A:O3):
  vs.length<64/\(vs.length<2->EP X J' σ Q (.ref s.heap.objs.size) {s with heap:=sortedHeap (lsH s.heap vs) s.heap.objs.size vs vs.toArray})/\
   (2<=vs.length->∃(c:Nat->Nat->Bool) (kd:SortKind),
    (∀(R:SortKind->OY->Prop) (E:MR->OY->Prop),R kd {s with heap:=bj (lsH s.heap vs) s.heap.objs.size vs}->wpAny (model X.prog X.w) A.in1.in1 (keyKind' vs.toArray) R E {s with heap:=bj (lsH s.heap vs) s.heap.objs.size vs})/\
    (∀i j,i<vs.length->j<vs.length->∀C:Bool->OY->Prop,C (c i j) {s with heap:=bj (lsH s.heap vs) s.heap.objs.size vs}->wpAny (model X.prog X.w) A.in1.in1 (keyLt' kd (vs.getD i .none) (vs.getD j .none)) C (fun _ _=>False) {s with heap:=bj (lsH s.heap vs) s.heap.objs.size vs})/\
    ∀p,Ord vs.length p->p=aW c (kas_sort vs.length)->EP X J' σ Q (.ref s.heap.objs.size) {s with heap:=sortedHeap (lsH s.heap vs) s.heap.objs.size vs (p.map fun i=>vs.getD i .none)}):=by
 have Kt:∀xs∈xss,xs≠[]:=fun xs hx z=>by have:=NB xs hx;rw[z] at this;exact absurd this (by show¬0=m;lia)
 have Ow:rs.length=xss.length:=by rw[hi.length,A1]
 have ln:=r'.length;have lns:vs.length=xss.length:=by lia
 refine⟨by lia,fun h2=> ?_,fun h2=>⟨gL xss,tuples' true,fun R E hR=> ?_,fun i j Lq hj' C hC=> ?_,fun p ho hpc=> ?_⟩⟩
 .obtain⟨e,he⟩:=tz s.heap vs vs.toArray;have fr:=I.hok.fresh (a:=s.heap.objs.size) (AB _);exact⟨.ref s.heap.objs.size,_,I.laid (t':=s.toks) (fun _ _=>tw) (AB _) (show aI X.prog X.w _ _ _ (.lst rs) from⟨by rw[Av];lia,vs,e,r',he⟩),rfl,q xss _ _ (List.Perm.refl _) (fun i j a b=>absurd b (by lia)) fr (ae.new fr) (aD ak (hi.mono (ae.new fr)))⟩
 .have I2:Inv X J' σ H {s with heap:=bj (lsH s.heap vs) s.heap.objs.size vs}:=I.kept (t':=s.toks) fun b o e=>mi e;obtain⟨fs,k1,k2,k3⟩:=rK I2 hi r' Kt;exact kat_kind (T:= .type "int") k1 (by lia) (fun f hf=>by obtain⟨z,t,rfl⟩:=k3 f hf;exact .now) rfl hR
 .have I2:Inv X J' σ H {s with heap:=bj (lsH s.heap vs) s.heap.objs.size vs}:=I.kept (t':=s.toks) fun b o e=>mi e;have g:∀i,i<xss.length->∃a,vs.getD i .none= .ref a/\SqT X.K H a ((xss.getD i []).map V.int):=fun i h=>by
   have hr:i<rs.length:=by lia
   obtain⟨d,hd,h1⟩:=hi.of_get (A2 hr);rw[AF,A2 h] at hd;cases hd;obtain⟨a,ea,ha⟩:=bM h1;obtain⟨u,KR,ru⟩:=r'.get (A2 hr);rw[ea] at ru;obtain rfl:u=Value.ref a:=ru;refine⟨a, ?_, ?_⟩
   .rw [A7,KR];rfl
   .rw [A7,A2 h];exact SqT.of ha
  obtain⟨a1,e1,s1⟩:=g i (by lia);obtain⟨a2,e2,s2⟩:=g j (by lia);rw[e1,e2];rw[sF (by lia) (by lia)] at hC;exact zQ I2 s1 s2 hC
 .rw [lns] at ho hpc;have L7:∀i∈p.toList,i<xss.length:=fun i hi=>ho.lt hi;obtain⟨e,he⟩:=tz s.heap vs (p.map fun i=>vs.getD i .none);have en:(p.map fun i=>vs.getD i .none)=List.toArray (p.toList.map fun i=>vs.getD i .none):=by
   apply Array.toList_inj.mp;simp
  rw[en] at he⊢;have fr:=I.hok.fresh (a:=s.heap.objs.size) (AB _);refine⟨.ref s.heap.objs.size,_,I.laid (t':=s.toks) (fun _ _=>tw) (AB _) (show aI X.prog X.w _ _ _ (.lst (p.toList.map fun i=>rs.getD i .non)) from⟨?_,_,e,lN r' p.toList (fun i hi=>by rw[Ow];exact L7 i hi),he⟩),rfl,q (p.toList.map fun i=>xss.getD i []) _ _ ?_ ?_ fr (ae.new fr) (aD ak ((rJ hi p.toList L7).mono (ae.new fr)))⟩
  .rw [A1,BC,Av,ho.size];lia
  .have pp:=(DT.mp ho).map fun i=>xss.getD i [];rw[show(List.range xss.length).toArray.toList=List.range xss.length from rfl,zO] at pp;exact pp
  .intro i j LS hj;rw[A1,BC,ho.size] at hj;have up:=Dv (Dx (xss:=xss) (m:=m) (by lia) NB) (n:=xss.length) (by lia) i j LS hj;rw[<-hpc] at up;have g:∀i,i<xss.length->(p.toList.map fun i=>xss.getD i []).getD i []=xss.getD (at0 p i) []/\at0 p i<xss.length:=fun i h=>by
    have hs:i<p.size:=by rw[ho.size];exact h
    have e:at0 p i=p[i]:=by simp[at0,Array.getD,hs]
    rw[e];refine⟨?_,ho.lt (by simp)⟩;rw[A7,AF];simp[hs]
   obtain⟨g1,g2⟩:=g i (by lia);obtain⟨g3,g4⟩:=g j hj;rw[g1,g3];rw[sF g4 g2] at up;exact up
theorem mj {α β:Type}{f:β->α}{P:β->Prop}:∀(vs:O4 α),(∀v∈vs,∃j,P j/\v=f j)->∃js:O4 β,vs=js.map f/\∀j∈js,P j
 |[],_=>⟨[],rfl,fun _ h=>nomatch h⟩
 |v::vs,h=>by
  obtain⟨j,pj,e⟩:=h v (by simp);obtain⟨js,es,ps⟩:=mj vs fun u hu=>h u (by simp[hu]);exact⟨j::js,by rw[e,es];rfl,fun i hi=>by rcases AJ.mp hi with rfl|hi;exact pj;exact ps i hi⟩
theorem tE (ad:Nat->OZ):∀js:O4 Nat,au (js.map fun j=>V.ref (ad j)) (js.map fun j=>Value.ref (ad j))
 |[]=> .nil
 |j::js=> .cons rfl (tE ad js)
theorem tF {H:Hp} (kk:Nat->O4 Int) (ad:Nat->OZ):∀js:O4 Nat,(∀j∈js,H (ad j)=some (.tup ((kk j).map V.int)))->Iss H ((js.map kk).map tI) (js.map fun j=>V.ref (ad j))
 |[],_=>ap
 |j::js,h=>am (eS (h j (by simp))) (tF kk ad js fun i hi=>h i (by simp[hi]))
theorem EB {α β:Type}{f:α->β}{L:O4 α}{vs:O4 β} (h:vs.Perm (L.map f)):∃js:O4 α,js.Perm L/\vs=js.map f:=by
 generalize hm:L.map f=ms at h;induction h generalizing L with
 |nil=>exact⟨[],by rw[List.map_eq_nil_iff.mp hm],rfl⟩
 | @cons x l1 l2 p ih=>
  cases L with
  |nil=>cases hm
  |cons a L=>
   rw[AK] at hm;injection hm with h1 h2;obtain⟨js,p,e⟩:=ih h2;exact⟨a::js,p.cons a,by rw[AK,h1,e]⟩
 |swap x y l=>
  match L,hm with
  |a::b::L,hm=>
   simp only[AK,CF] at hm;obtain⟨rfl,rfl,rfl⟩:=hm;exact⟨b::a::L,List.Perm.swap ..,rfl⟩
 |trans p1 p2 ih1 ih2=>
  obtain⟨js,q1,e1⟩:=ih2 hm;obtain⟨ks,q2,e2⟩:=ih1 e1.symm;exact⟨ks,q2.trans q1,e2⟩
theorem EC (ek:EsK kk ad n es ks) (hp:vs.Perm (es.toList.map (·.2))):
  ∃js:O4 Nat,vs=js.map (fun j=>Value.ref (ad j))/\(∀j∈js,j<n)/\(js.map kk).Perm ks.toList:=by
 have hl:es.toList.length=ks.toList.length:=by simp[ek.size]
 obtain⟨L,eL,pL⟩:=mj (f:=fun j=>((hK (kk j),Value.ref (ad j)),kk j)) (P:=fun j=>j<n) (es.toList.zip ks.toList) fun v hv=>by
  obtain⟨i,hi,e⟩:=CI.mp hv;rw[List.getElem_zip] at e;rw[List.length_zip] at hi;have hi1:i<es.size:=by simp at hi;lia
  obtain⟨j,j1,j2,j3⟩:=ek.of (Ah hi1);have hk:ks[i]? =some ks.toList[i]:=by rw[<-Bt,A2]
  rw[hk,Option.some.injEq] at j2;refine⟨j,j1, ?_⟩;rw[<-e,j2];exact Prod.ext (by simpa using j3) rfl
 have e1:es.toList=L.map fun j=>(hK (kk j),Value.ref (ad j)):=by
  have:=BN (List.map Prod.fst) eL;rw[List.map_fst_zip (by lia),BX] at this;exact this
 have e2:ks.toList=L.map kk:=by
  have:=BN (List.map Prod.snd) eL;rw[List.map_snd_zip (by lia),BX] at this;exact this
 rw[e1,BX] at hp;obtain⟨js,p,e⟩:=EB hp;exact⟨js,e,fun j hj=>pL j (p.mem_iff.mp hj),by rw[e2];exact p.map kk⟩
theorem ED {e:O5}{ta:TA}{p p2 pos MT:Pos} (hu:X.A.units+8<cLine) (hh:X.A.handled=none) (hg:Gl X "sorted") (hm:X.mg "sorted"=none) (hg2:Gl X "set") (hm2:X.mg "set"=none)
  (ha:PA X [e] ta) (he:starEach [e] X.env=(false,eval e X.env)::starEach [] X.env:=by rfl)
  (Nw:starEach [Expr.Call (.Name "set" p2) [e] [] MT] X.env=(false,eval (Expr.Call (.Name "set" p2) [e] [] MT) X.env)::starEach [] X.env:=by rfl):
  PE X (.Call (.Name "sorted" p) [.Call (.Name "set" p2) [e] [] MT] [] pos) (tCB rSSet ta):=by
 intro J' s σ H Q I h;refine Bn (dg I hg hm (by first|exact boot_sorted|rfl|ac_nf) ?_ (by decide) (by decide));refine D5 ?_ Nw (by rfl);rw[Nw];show wpAny _ _ (spliced ((false,eval (Expr.Call (.Name "set" p2) [e] [] MT) X.env)::backTo pos (starEach [] X.env))) _ _ s;refine D1 ?_;refine Bn (dg I hg2 hm2 (by first|rfl|ac_nf) ?_ (by decide) (by decide));refine BH (thn (ha MT J' s σ H _ I h) fun us s1 ⟨vs,H1,I1,r1,q1⟩=> ?_) he (by rfl);obtain⟨v,xss,m,rfl,hv,hm',NB,Ox,q⟩:=q1;obtain⟨y,Lm,htb,tl,tp,tm,t64,knd,NC⟩:=Ez Ox (!X.w.params.followText "set-order");obtain⟨l,rs,rfl,hl,hi⟩:=aB hv;have Ow:rs.length=xss.length:=by rw[hi.length,A1]
 obtain⟨u,rfl,rx⟩:=cB r1;cases rx;obtain⟨Kd,r',pl,hz⟩:=I1.list (SqL.of (K:=X.K) hl);have ln:=r'.length;have g:∀i,∃a,i<xss.length->Kd[i]? =some (.ref a)/\rs[i]? =some (.ref a)/\H1 a=some (.tup ((xss.getD i []).map V.int)):=fun i=>by
  by_cases h:i<xss.length
  .have hr:i<rs.length:=by lia
   obtain⟨d,hd,h1⟩:=hi.of_get (A2 hr);rw[AF,A2 h] at hd;cases hd;obtain⟨a,ea,ha⟩:=bM h1;obtain⟨u,KR,ru⟩:=r'.get (A2 hr);rw[ea] at ru;obtain rfl:u=Value.ref a:=ru;refine⟨a,fun _=>⟨KR,by rw[A2 hr,ea], ?_⟩⟩;rw[A7,A2 h];exact ha
  .exact⟨0,fun c=>absurd c h⟩
 let ad:Nat->OZ:=fun i=>Classical.choose (g i)
 have hg:∀i,i<xss.length->Kd[i]? =some (.ref (ad i))/\rs[i]? =some (.ref (ad i))/\H1 (ad i)=some (.tup ((xss.getD i []).map V.int)):=fun i hi=>Classical.choose_spec (g i) hi;generalize ad=ad at hg;refine Ej (kk:=fun i=>xss.getD i []) (ad:=ad) (items:=Kd.toArray) hh (by lia) pl.isList (xs:=xss) (fun i hi=> ?_) (by rw[AE];lia) Lm (fun i hi=> ?_) fun h' tk es hS ek hk=> ?_
 .rw [AE] at hi;rw[A7,A2 (by lia)];rfl
 .rw [AE] at hi;have hg':=hg i (by lia);exact⟨by rw[List.getElem?_toArray];exact hg'.1,Ex I1 (SqT.of hg'.2.2)⟩
 .have I2:Inv X J' σ H1 {s1 with heap:=h',toks:=tk}:=I1.kept fun b o e=>hk b o (AM e) e;refine A3 ?_;show wpAny _ _ (call (.builtin "sorted") [.ref s1.heap.objs.size]) _ _ {s1 with heap:=h',toks:=tk};obtain⟨ep,ho⟩:=hS;have ez:=ek.size;refine Ew (Ev (s:={s1 with heap:=h',toks:=tk}) (A:=X.A.in1) hh ho (htb es ez) (by lia) tl tp fun h'' tk' vs Mr hsz hp=> ?_) fun vs s' g=>g;obtain⟨js,ev,lt,pk⟩:=EC ek hp;have I3:Inv X J' σ H1 {s1 with heap:=h'',toks:=tk'}:=I2.kept Mr;have lt':∀j∈js,j<xss.length:=fun j hj=>by have:=lt j hj;rw[AE] at this;lia
  subst ev;have mem:∀z,z∈js.map (fun i=>xss.getD i [])↔z∈xss:=fun z=>by rw[pk.mem_iff];exact NC z
  have bound:(js.map fun i=>xss.getD i []).length=y.2.size:=by rw[pk.length_eq,BC]
  have nd:=pk.nodup_iff.mpr knd;refine EA I3 (rs:=js.map fun j=>V.ref (ad j)) (xss:=js.map fun i=>xss.getD i []) (tF _ ad js fun j hj=>(hg j (lt' j hj)).2.2) (tE ad js) hm' (fun xs hx=>NB xs ((mem xs).mp hx)) (by lia) (fun Lb q' H' pm srt hq sm his=> ?_) X.A;exact q Lb q' H' (pm.nodup_iff.mpr nd) (fun z=>by rw[pm.mem_iff];exact mem z) srt hq sm his
end
end L2
namespace L2
open PySem PySem.Spec PyProof.Rows PySem.W
variable {H H':Hp}{Kb:O4 (O4 Key×V)}{P:O0}{Q:O7 MR->OY->Prop}{d it:OZ}{e:DictEntry}{ep i:Nat}{es:Array DictEntry}{o:Obj}{w:O2}
section
variable {prog:O0}{w:O2}{A:O3}{E:MR->OY->Prop}{s:OY}
theorem EE {Q:MR->OY->Prop} (hd:(d==sysModules)=false) (ho:s.heap.get? d=some o) (hc:o.ExactDict) (LW:o.data= .dict es ep)
  (hQ:Q (.ref s.heap.objs.size) {s with heap:=s.heap.push {cls:= .type "dict_keyiterator",data:= .fields #[.ref d, .int 0 0, .int es.size 0, .int ep 0]}}):
  wpAny (model prog w) A (pyIter (.ref d)) Q E s:=by
 have hT:s.TypeIs (.ref d) "dict":=⟨o,ho,hc.1⟩;refine wpAny_pyIter_slot hT PySem.F.slot_dict_iter (Ai PySem.F.slot_dict_iter hT PySem.F.entry_dict_iter ?_ (PySem.F.args_dict_iter_1 _));unfold Builtin.«dict.__iter__»;refine A0 ?_;unfold Builtin.Dict.dictSlotNone;refine A0 (wpAny_notOrdered_dict hT ?_);show wpAny _ _ (pure (Value.ref d)) _ _ s;refine A3 ?_;show wpAny _ _ (Builtin.Dict.showsAll d>>=_) _ _ s;unfold Builtin.Dict.showsAll;rw[A6 (by rw[hd];exact AZ)];refine A0 (A3 ?_);refine A0 (Cd ho LW ?_);refine A0 (Cy ho LW ?_);refine A0 (Au (A3 ⟨_,rfl,"dict_keyiterator",_,⟨_,AI _ rfl,rfl⟩,Bh.lookup, ?_⟩));simpa[rawInt] using hQ
theorem EF (Kj:s.heap.IsKeyIter it d i es.size ep) (MU:s.heap.get? d=some o) (MV:o.data= .dict es ep) (he:es[i]? =some e)
  (hQ:∀h',h'.IsKeyIter it d (i+1) es.size ep->Heap.SameBut it s.heap h'->Q (some e.key) {s with heap:=h'}):wpAny (model prog w) A (pyNext (.ref it)) Q E s:=by
 obtain⟨oi,ho,hc,hd⟩:=id Kj;have Kf:i<es.size:=(Array.getElem?_eq_some_iff.mp he).1;unfold pyNext;refine A0 (CO (B3 (name:=Str.ofString "__next__") Kj.typeIs Bh (Ai Bh Kj.typeIs PySem.F.entry_dict_keyiterator_next ?_ (PySem.F.args_dict_keyiterator_next_1 _))));refine A0 (A3 ?_);refine A0 ?_;refine A0 ?_;first|refine A0 (CU Kj.typeIs (A3 ?_));skip|refine A0 (Cq Kj.typeIs (A3 ?_));skip
 refine A0 (D' ho hd ?_);have LF:Builtin.Dict_items.ownsTuple "dict_keyiterator"=false:=by decide
 simp -iota only[LF,AG,Am];show wpAny _ _ (if(Value.ref d==Value.none)=true then _ else _) _ _ s;rw[A6 (show¬((Value.ref d==Value.none)=true) from AZ)];refine A0 (A3 ?_);refine A0 (Cd MU MV ?_);rw[A6 (by simp)];refine A0 (A3 ?_);refine A0 (Cy MU MV ?_);rw[A6 (by simp)];refine A3 ?_;simp only[show¬((i:Int)<0) from by lia,Am,An,he];refine A0 ?_;first|refine A0 (CU Kj.typeIs (A3 ?_));skip|refine A0 (Cq Kj.typeIs (A3 ?_));skip
 refine A0 (wpAny_isOneOf_keyiter Kj.typeIs ?_);show wpAny _ _ (setField (.ref it) 1 (rawInt ((i:Int)+1))>>=_) _ _ s;refine A0 (CG ho hd (by simp) ?_);have Km:(s.heap.update it (Obj.mapFields (·.setIfInBounds 1 (rawInt ((i:Int)+1))))).IsKeyIter it d (i+1) es.size ep:=⟨_,CK _ ho (DH (C0 hd _)),(Obj.cls_mapFields ..).trans hc,by rw[C0 hd];simp[rawInt]⟩;refine A0 (Az ?_);refine A0 (wpAny_isOneOf_keyiter (s:={s with heap:=s.heap.update it (Obj.mapFields (·.setIfInBounds 1 (rawInt ((i:Int)+1))))}) Km.typeIs ?_);show wpAny _ _ (pure e.key) _ _ _;exact A3 (A3 ⟨_,rfl,A3 (hQ _ Km (BD ..))⟩)
theorem EG (hh:A.handled=none) (Kj:s.heap.IsKeyIter it d i es.size ep) (MU:s.heap.get? d=some o) (MV:o.data= .dict es ep) (he:es.size<=i)
  (hQ:∀h',Heap.ExtBut it s.heap h'->Q none {s with heap:=h'}):wpAny (model prog w) A (pyNext (.ref it)) Q E s:=by
 obtain⟨oi,ho,hc,hd⟩:=id Kj;unfold pyNext;refine A0 (CO (B3 (name:=Str.ofString "__next__") Kj.typeIs Bh (Ai Bh Kj.typeIs PySem.F.entry_dict_keyiterator_next ?_ (PySem.F.args_dict_keyiterator_next_1 _))));refine A0 (A3 ?_);refine A0 ?_;refine A0 ?_;first|refine A0 (CU Kj.typeIs (A3 ?_));skip|refine A0 (Cq Kj.typeIs (A3 ?_));skip
 refine A0 (D' ho hd ?_);have LF:Builtin.Dict_items.ownsTuple "dict_keyiterator"=false:=by decide
 simp -iota only[LF,AG,Am];show wpAny _ _ (if(Value.ref d==Value.none)=true then _ else _) _ _ s;rw[A6 (show¬((Value.ref d==Value.none)=true) from AZ)];refine A0 (A3 ?_);refine A0 (Cd MU MV ?_);rw[A6 (by simp)];refine A0 (A3 ?_);refine A0 (Cy MU MV ?_);rw[A6 (by simp)];refine A3 ?_;simp only[show¬((i:Int)<0) from by lia,Am,An,BM he];refine A0 ?_;first|refine A0 (CU Kj.typeIs (A3 ?_));skip|refine A0 (Cq Kj.typeIs (A3 ?_));skip
 show wpAny _ _ (setField (.ref it) 0 .none>>=_) _ _ s;refine A0 (CG ho hd (by simp) ?_);show wpAny _ _ (newExc (.type "StopIteration") []>>=_) _ _ _;refine A0 ?_;simp only[newExc,newTuple];refine A0 (Au ?_ (by size_fits));refine A0 (m:=firstArgMember _ _) (DL (a:=Value.none) (by first|rfl|(simp only[firstArgMember];rfl)) ?_);refine Au ?_ (by size_fits);simp -iota only[raiseNew];refine A0 (wpAny_handled ?_);rw[show A.in1.handled=none from hh];refine A0 (A3 (wpAny_throw ?_));refine A0 (Bo (T:="StopIteration") (b:=true) ⟨_,AI _ rfl,rfl⟩ isSubtype_stop ?_);exact A3 (hQ _ (((BD ..).extBut.push _).push _))
end
section
variable {prog:O0}{w:O2}{A:O3}{E:MR->OY->Prop}{s:OY}
theorem EH {Q:MR->OY->Prop} (hd:(d==sysModules)=false) (ho:s.heap.get? d=some o) (hc:o.ExactDict)
  (hQ:Q (.ref s.heap.objs.size) {s with heap:=s.heap.push {cls:= .type "dict_values",data:= .fields #[.ref d]}}):wpAny (model prog w) A (call (.builtin "dict.values") [.ref d]) Q E s:=by
 have hT:s.TypeIs (.ref d) "dict":=⟨o,ho,hc.1⟩;refine Ai PySem.F.slot_dict_values hT PySem.F.entry_dict_values ?_ (PySem.F.args_dict_values_1 _);refine A0 ?_;unfold Builtin.Dict.noArgs;refine A0 (wpAny_notOrdered_dict hT ?_);show wpAny _ _ (pure d) _ _ s;refine A3 ?_;show wpAny _ _ (Builtin.Dict.showsAll d>>=_) _ _ s;unfold Builtin.Dict.showsAll;rw[A6 (by rw[hd];exact AZ)];refine A0 (A3 ?_);exact A0 (Au (A3 ⟨_,rfl,hQ⟩))
theorem EI {v:OZ}{Q:MR->OY->Prop} (hv:s.heap.IsValuesView v d) (ho:s.heap.get? d=some o) (LW:o.data= .dict es ep)
  (hQ:Q (.ref s.heap.objs.size) {s with heap:=s.heap.push {cls:= .type "dict_valueiterator",data:= .fields #[.ref d, .int 0 0, .int es.size 0, .int ep 0]}}):
  wpAny (model prog w) A (pyIter (.ref v)) Q E s:=by
 obtain⟨ov,hov,hcv,hdv⟩:=id hv;refine wpAny_pyIter_slot hv.typeIs PySem.F.slot_dict_values_iter (Ai PySem.F.slot_dict_values_iter hv.typeIs PySem.F.entry_dict_values_iter ?_ (PySem.F.args_dict_values_iter_1 _));unfold Builtin.«dict_values.__iter__»;refine A0 (A3 ?_);refine A0 ?_;unfold Builtin.Dict_items.dictOf;refine A0 (Bg hov hdv (x:= .ref d) rfl (A3 ?_));refine A0 ?_;unfold Builtin.Dict_items.newIterator;refine A0 (Cd ho LW ?_);refine A0 (Cy ho LW ?_);have LF:Builtin.Dict_items.ownsTuple "dict_valueiterator"=false:=by decide
 simp -iota only[LF,AG,Am];refine Au (A3 ⟨_,rfl,"dict_valueiterator",_,⟨_,AI _ rfl,rfl⟩,BY.lookup, ?_⟩);simpa[rawInt] using hQ
theorem EJ (Kj:s.heap.IsValIter it d i es.size ep) (MU:s.heap.get? d=some o) (MV:o.data= .dict es ep) (he:es[i]? =some e)
  (hQ:∀h',h'.IsValIter it d (i+1) es.size ep->Heap.SameBut it s.heap h'->Q (some e.val) {s with heap:=h'}):wpAny (model prog w) A (pyNext (.ref it)) Q E s:=by
 obtain⟨oi,ho,hc,hd⟩:=id Kj;have Kf:i<es.size:=(Array.getElem?_eq_some_iff.mp he).1;unfold pyNext;refine A0 (CO (B3 (name:=Str.ofString "__next__") Kj.typeIs BY (Ai BY Kj.typeIs PySem.F.entry_dict_valueiterator_next ?_ (PySem.F.args_dict_valueiterator_next_1 _))));refine A0 (A3 ?_);refine A0 ?_;refine A0 ?_;first|refine A0 (CT Kj.typeIs (A3 ?_));skip|refine A0 (Cp Kj.typeIs (A3 ?_));skip
 refine A0 (D' ho hd ?_);have LF:Builtin.Dict_items.ownsTuple "dict_valueiterator"=false:=by decide
 simp -iota only[LF,AG,Am];show wpAny _ _ (if(Value.ref d==Value.none)=true then _ else _) _ _ s;rw[A6 (show¬((Value.ref d==Value.none)=true) from AZ)];refine A0 (A3 ?_);refine A0 (Cd MU MV ?_);rw[A6 (by simp)];refine A0 (A3 ?_);refine A0 (Cy MU MV ?_);rw[A6 (by simp)];refine A3 ?_;simp only[show¬((i:Int)<0) from by lia,Am,An,he];refine A0 ?_;first|refine A0 (CT Kj.typeIs (A3 ?_));skip|refine A0 (Cp Kj.typeIs (A3 ?_));skip
 refine A0 (wpAny_isOneOf_valiter Kj.typeIs ?_);show wpAny _ _ (setField (.ref it) 1 (rawInt ((i:Int)+1))>>=_) _ _ s;refine A0 (CG ho hd (by simp) ?_);have Km:(s.heap.update it (Obj.mapFields (·.setIfInBounds 1 (rawInt ((i:Int)+1))))).IsValIter it d (i+1) es.size ep:=⟨_,CK _ ho (DH (C0 hd _)),(Obj.cls_mapFields ..).trans hc,by rw[C0 hd];simp[rawInt]⟩;refine A0 (Az ?_);refine A0 (wpAny_isOneOf_valiter (s:={s with heap:=s.heap.update it (Obj.mapFields (·.setIfInBounds 1 (rawInt ((i:Int)+1))))}) Km.typeIs ?_);refine A0 (wpAny_isOneOf_valiter (s:={s with heap:=s.heap.update it (Obj.mapFields (·.setIfInBounds 1 (rawInt ((i:Int)+1))))}) Km.typeIs ?_);show wpAny _ _ (pure e.val) _ _ _;exact A3 (A3 ⟨_,rfl,A3 (hQ _ Km (BD ..))⟩)
theorem EK (hh:A.handled=none) (Kj:s.heap.IsValIter it d i es.size ep) (MU:s.heap.get? d=some o) (MV:o.data= .dict es ep) (he:es.size<=i)
  (hQ:∀h',Heap.ExtBut it s.heap h'->Q none {s with heap:=h'}):wpAny (model prog w) A (pyNext (.ref it)) Q E s:=by
 obtain⟨oi,ho,hc,hd⟩:=id Kj;unfold pyNext;refine A0 (CO (B3 (name:=Str.ofString "__next__") Kj.typeIs BY (Ai BY Kj.typeIs PySem.F.entry_dict_valueiterator_next ?_ (PySem.F.args_dict_valueiterator_next_1 _))));refine A0 (A3 ?_);refine A0 ?_;refine A0 ?_;first|refine A0 (CT Kj.typeIs (A3 ?_));skip|refine A0 (Cp Kj.typeIs (A3 ?_));skip
 refine A0 (D' ho hd ?_);have LF:Builtin.Dict_items.ownsTuple "dict_valueiterator"=false:=by decide
 simp -iota only[LF,AG,Am];show wpAny _ _ (if(Value.ref d==Value.none)=true then _ else _) _ _ s;rw[A6 (show¬((Value.ref d==Value.none)=true) from AZ)];refine A0 (A3 ?_);refine A0 (Cd MU MV ?_);rw[A6 (by simp)];refine A0 (A3 ?_);refine A0 (Cy MU MV ?_);rw[A6 (by simp)];refine A3 ?_;simp only[show¬((i:Int)<0) from by lia,Am,An,BM he];refine A0 ?_;first|refine A0 (CT Kj.typeIs (A3 ?_));skip|refine A0 (Cp Kj.typeIs (A3 ?_));skip
 show wpAny _ _ (setField (.ref it) 0 .none>>=_) _ _ s;refine A0 (CG ho hd (by simp) ?_);show wpAny _ _ (newExc (.type "StopIteration") []>>=_) _ _ _;refine A0 ?_;simp only[newExc,newTuple];refine A0 (Au ?_ (by size_fits));refine A0 (m:=firstArgMember _ _) (DL (a:=Value.none) (by first|rfl|(simp only[firstArgMember];rfl)) ?_);refine Au ?_ (by size_fits);simp -iota only[raiseNew];refine A0 (wpAny_handled ?_);rw[show A.in1.handled=none from hh];refine A0 (A3 (wpAny_throw ?_));refine A0 (Bo (T:="StopIteration") (b:=true) ⟨_,AI _ rfl,rfl⟩ isSubtype_stop ?_);exact A3 (hQ _ (((BD ..).extBut.push _).push _))
theorem EL (hh:A.handled=none) (I d:OZ) (Kt:d≠I) (LW:o.data= .dict es ep):
  Walks prog w A I [I,d] [I] es.size (fun i v=>∃e,es[i]? =some e/\v=e.val) (fun i h=>h.IsValIter I d i es.size ep/\h.get? d=some o) where
 sub:=fun b hb=>by simp at hb;simp[hb]
 frame:=fun _ _ _ st hk=>⟨st.1.at fun o e=>hk I (by simp) o e,hk d (by simp) _ st.2⟩
 item:=fun i s Q E hi st hQ=>EJ st.1 st.2 LW (Ah hi) fun h' Ma hs'=>hQ _ h' s.toks ⟨_,Ah hi,rfl⟩ ⟨Ma,hs'.extBut d _ Kt st.2⟩ fun b o hb e=>hs'.extBut b o (fun h=>hb (by simp[h])) e
 done:=fun s Q E st hQ=>EK hh st.1 st.2 LW (AB _) fun h' Ny=>hQ h' s.toks fun b o hb e=>Ny b o (fun h=>hb (by simp[h])) e
 self:=fun _ _ _ _ st hQ=>wpAny_pyIter_valiter st.1 hQ
theorem tG (ns:O4 Int):∀k,k<=ns.length->preSum (fun i=>ns.getD i 0) k=(ns.take k).sum
 |0,_=>by simp[preSum]
 |k+1,h=>by
  have hk:k<ns.length:=by lia
  have g:ns.getD k 0=ns[k]:=by simp[List.getD,hk]
  rw[preSum,tG ns k (by lia),AN,A2 hk,CD];show _+ns.getD k 0=_+[ns[k]].sum;rw[g];simp
end
theorem mn {α β:Type}{R:α->β->Prop}:∀{xs:O4 α}{ys:O4 β}{i:Nat}{x:α},Paired R xs ys->xs[i]? =some x->∃y,ys[i]? =some y/\R x y
 |_,_,i,x, .nil,h=>by simp at h
 |_,_,0,x, .cons r _,h=>by simp at h;subst h;exact⟨_,rfl,r⟩
 |_,_,i+1,x, .cons _ t,h=>by simp at h;obtain⟨y,e,r⟩:=mn t h;exact⟨y,by simpa using e,r⟩
def Itk (d:OZ) (o:Obj) (Kb:O4 (O4 Key×V)):It:=
 ⟨fun i H=>H d=some (.frz o (.dT Kb))/\i<Kb.length,fun i H x H'=>H'=H/\∃b k v,x= .ref b/\Kb[i]? =some (k,v)/\H b=some (.tup (k.map kV)),fun i H=>H d=some (.frz o (.dT Kb))/\Kb.length<=i⟩
inductive iDict_ (R:(It->Hp->Prop)) (x:V) (H1:Hp):Prop
 |mk (d:Addr) (Kb:List (List Key×V)):x= .ref d->Rd H1 d (.dT Kb)->(∀(o:Obj) (H2:Hp),H2 d=some (.frz o (.dT Kb))->(∀b,b≠d->H2 b=H1 b)->R (Itk d o Kb) H2)->iDict_ R x H1
def EM (td:TE):TI:=fun σ H R=>td σ H fun x H1=>iDict_ R x H1
theorem EN {K:W.Frag}{tg:O5} (d it:OZ) (o:Obj) (Kb:O4 (O4 Key×V)) (ep:Nat) (hep:∀KL MI,o.data= .dict KL MI->MI=ep):Turn P w K tg (Itk d o Kb) [it] it (fun i h=>h.IsKeyIter it d i Kb.length ep) where
 mem:=by simp
 obj:=fun i h st b hb=>by
  have e:b=it:=by simpa using hb
  subst e;obtain⟨o,e,c,d⟩:=st;exact⟨o,e,fun v z=>by rw[d] at z;cases z⟩
 keep:=fun i h h' st k=>st.at fun o e=>k it (by simp) o e
 item:=by
  intro X hP hw hK hc i J' s σ H E I hf st hg;subst hP hw hK;obtain⟨hq,hi⟩:=hg;obtain⟨ho,z,y,xs,Kq,o',es,MI,h1,h2,h3,h4,h5⟩:=(show aI X.prog X.w H s.heap d (.frz o (.dT Kb)) from I.hok d _ hq);obtain rfl:o=o':=Ao (ho.symm.trans h1);obtain rfl:MI=ep:=hep _ _ h3;have hx:Kb[i]? =some Kb[i]:=A2 hi;obtain⟨q,Nz,e1,e2,e3⟩:=mn Kq hx;have hsz:es.size=Kb.length:=by rw[<-BC,h4,A1,<-CC Kq]
  have he:es[i]? =some (entryOfKey (tupleKind (bZ X.prog X.w)) q):=by rw[<-Bt,h4,AF,Nz];rfl
  obtain⟨f0,f1,f2,f3,f4,f5⟩:=hf it (by simp);rw[<-hsz] at st;refine EF st ho h3 he fun h' Km sb=> ?_;have I1:Inv X J' σ H {s with heap:=h'}:=I.turned (t':=s.toks) (fun b o hb e=>(sb.2 b hb).trans e) f0 f1 f3 f4 f5;obtain⟨oo,e,c,d'⟩:=id Km;rw[hsz] at Km;exact⟨_,rfl,go_of (s:={s with heap:=h'}) e c d' (by decide) ⟨.ref q.2.1,H,I1,rfl,⟨rfl,q.2.1,Kb[i].1,Kb[i].2,rfl,hx,e2⟩,Km,fun b hb=>(hf b hb).1⟩⟩
 done:=by
  intro X hP hw hK hc i J' s σ H E I hf st hg;subst hP hw hK;obtain⟨hq,hi⟩:=hg;obtain⟨ho,z,y,xs,Kq,o',es,MI,h1,h2,h3,h4,h5⟩:=(show aI X.prog X.w H s.heap d (.frz o (.dT Kb)) from I.hok d _ hq);obtain rfl:o=o':=Ao (ho.symm.trans h1);obtain rfl:MI=ep:=hep _ _ h3;have hsz:es.size=Kb.length:=by rw[<-BC,h4,A1,<-CC Kq]
  obtain⟨f0,f1,f2,f3,f4,f5⟩:=hf it (by simp);rw[<-hsz] at st;exact EG (I.ok.hd hc) st ho h3 (by lia) fun h' eb=>⟨rfl,I.turned (t':=s.toks) (fun b o hb e=>eb b o hb e) f0 f1 f3 f4 f5⟩
 self:=fun _ _ _ _ _ st h=>wpAny_pyIter_keyiter st h
section
variable {X:Cx}{tg:O5}
theorem EO {h:O6}(q:aI P w H h d (.dT Kb)) (k:∀b ys,H b=some (.tup ys)->H' b=some (.tup ys)):aI P w H' h d (.dT Kb):=by
 obtain⟨z,y,xs,Kq,r⟩:=q;exact⟨z,y,xs,KT.keeps Kq fun c ys ec=>k c ys ec,r⟩
theorem EQ {l:O5}{tl:TE} (hl:PE X l tl):PI X tg l (EM tl):=by
 intro J' s σ H R I h;refine thn (hl J' s σ H _ I h) fun v s1 ⟨x,H1,I1,r1,q1⟩=> ?_;obtain⟨d,Kb,rfl,hq,q⟩:=q1;cases r1;have NW:aI X.prog X.w H1 s1.heap d (.dT Kb):=jF I1.hok hq;obtain⟨z,y,xs,Kq,o,es,ep,h1,h2,h3,h4,h5⟩:=id NW;have hsz:es.size=Kb.length:=by rw[<-BC,h4,A1,<-CC Kq]
 obtain⟨H2,I2,e2,k2⟩:∃H2,Inv X J' σ H2 s1/\H2 d=some (.frz o (.dT Kb))/\∀b,b≠d->H2 b=H1 b:=by
  rcases hq with hq|⟨o',hq⟩
  .exact⟨_,gz (t':=s1.toks) I1 (by rw[hq];exact True.intro) (Heap.SameBut.refl _ _) ⟨o,h1⟩ (show aI X.prog X.w (upd H1 d (.frz o (.dT Kb))) s1.heap d (.frz o (.dT Kb)) from⟨h1,EO NW fun b ys e=>by rw[ax (kW e hq (fun z=>nomatch z))];exact e⟩),ak,fun b hb=>ax hb⟩
  .obtain⟨KJ,_⟩:=(show aI X.prog X.w H1 s1.heap d (.frz o' (.dT Kb)) from I1.hok d _ hq);obtain rfl:o'=o:=Ao (KJ.symm.trans h1);exact⟨H1,I1,hq,fun _ _=>rfl⟩
 refine EE y h1 h2 h3 ?_;rw[hsz];refine⟨s1.heap.objs.size,[s1.heap.objs.size],_,_,_,rfl,I2.kept (t':=s1.toks) fun b o e=>A4 _ e,EN d _ o Kb ep (fun KL MI e=>by rw[h3] at e;cases e;rfl),⟨_,AI _ rfl,rfl,rfl⟩,fun b hb=> ?_,q o H2 e2 k2⟩;have e:b=s1.heap.objs.size:=by simpa using hb
 subst e;exact I2.fpOk (AB _) (I2.hok.fresh (AB _))
theorem ER {g:TG}{tb:TS}{D:Ends}{σ:St}(Pv:Nat->St->Hp->Prop) (h0:Pv 0 σ H) (hl:∀i σ H,i<=Kb.length->Pv i σ H->H d=some (.frz o (.dT Kb)))
  (hs:∀i k v b σ H,Kb[i]? =some (k,v)->Pv i σ H->H b=some (.tup (k.map kV))->g (.ref b) σ H fun σ2 H2=>tb (eLp D (Pv (i+1))) σ2 H2) (hd:∀σ H,Pv Kb.length σ H->D.nx σ H):
  ∃Wq:Nat->Nat->St->Hp->Prop,(∃m,Wq 0 m σ H)/\∀i m σ H,Wq i m σ H->
   ((Itk d o Kb).stop i H/\D.nx σ H)\/((Itk d o Kb).go i H/\∃N:St->Hp->Prop,(∀σ' H',N σ' H'->∃m',m'<m/\Wq (i+1) m' σ' H')/\∀x H',(Itk d o Kb).yld i H x H'->g x σ H' fun σ2 H2=>tb (eLp D (N)) σ2 H2):=by
 refine⟨fun i m σ H=>m=Kb.length-i/\i<=Kb.length/\Pv i σ H,⟨Kb.length,by simp,AQ _,h0⟩, ?_⟩;rintro i m σ H ⟨rfl,hi,p⟩;have q:=hl i σ H hi p;by_cases Kf:i<Kb.length
 .refine .inr ⟨⟨q,Kf⟩,Pv (i+1),fun σ' H' p'=>⟨Kb.length-(i+1),by lia,rfl,Kf,p'⟩, ?_⟩;rintro x H' ⟨rfl,b,k,v,rfl,e,hb⟩;exact hs i k v b σ _ e p hb
 .obtain rfl:i=Kb.length:=by lia
  exact .inl ⟨⟨q,AB _⟩,hd σ H p⟩
def ES (tk tv:TE):TE:=fun σ H Q=>∀p,H p=none->tk σ (upd H p (.dT [])) fun x H1=>tv σ H1 fun y H2=>H2 p=some (.dT [])/\∃k b,x= .ref b/\H2 b=some (.tup (k.map kV))/\Q (.ref p) (upd H2 p (.dT (bD [] k y)))
theorem ET {ek ev:O5}{tk tv:TE}{pos:Pos} (hu:X.A.units+1<cLine) (hk:PE X ek tk) (hv:PE X ev tv):PE X (.Dict [some ek] [ev] pos) (ES tk tv):=by
 intro J' s σ H Q I q;have hn:=I.hok.fresh (AB s.heap.objs.size);have I1:=I.laid (a:=s.heap.objs.size) (o:= .dT []) (h':=s.heap.push {cls:= .type "dict",data:= .dict #[]}) (t':=s.toks) (fun _ _ q=>A4 _ q) (AB _) (qS s.heap I.big);rw[arm_eval_Dict,zip_pairTrees [some ek] [ev] X.env pos rfl rfl,dictDisplay_pairs (pairTrees [some ek] [ev] X.env pos) (by intro z;cases z) (show 1<17 by decide)];refine A0 (wpAny_standAt (A0 ?_));unfold subDict;refine A0 (wpAny_alloc ?_);refine A0 (Az ?_);rw[A8 (show(pairTrees [some ek] [ev] X.env pos).length<=15 from(by decide:1<=15))];refine A0 (pairTrees_cons_walk (thn (hk J' _ σ _ _ I1 (q _ hn)) fun u s1 ⟨x,H1,I2,rx,q1⟩=>thn (hv J' s1 σ H1 _ I2 q1) fun w2 s2 ⟨y,H2,I3,ry,e,k,b,ex,eb,q2⟩=>pairTrees_nil_walk ?_));subst ex;cases (show u=Value.ref b from rx);obtain⟨z,hd,xs,Kq,dd⟩:=qP I3.hok e;cases Kq;refine wpAny_holding (wpAny_bind ?_);rw[List.forIn_cons];dsimp only;refine A0 (A0 (wpAny_dictSet_heap (knd:=tupleKind (bZ X.prog X.w)) (show X.A.units<cLine by lia) (gw I3.hok eb) dd (fun h' Ng hs=>A3 ?_) (AQ _)));dsimp only;rw[List.forIn_nil];refine wpAny_pure (wpAny_pure (wpAny_pure (wpAny_pure ?_)));obtain⟨o,es,ep,hq,h2,h3,h4,_,h5⟩:=Ng;refine⟨.ref s.heap.objs.size,_,gz I3 (by rw[e];exact True.intro) hs ⟨o,hq⟩ (show aI X.prog X.w (upd H2 s.heap.objs.size (.dT (bD [] k y))) h' s.heap.objs.size (.dT (bD [] k y)) from⟨(by show 1<=sizeLine;decide),hd,_,KT.keeps (KT.put .nil k eb ry) fun c ys ec=> ?_,o,es,ep,hq,h2,h3,h4,h5⟩),rfl,q2⟩;rw[ax (kW ec e (fun z=>nomatch z))];exact ec
inductive tSumV_ (Q:VK) (x:V) (H1:Hp):Prop
 |mk (d:Addr) (Kb:List (List Key×V)) (ns:List Int):x= .ref d->Rd H1 d (.dT Kb)->Kb.map (·.2)=ns.map V.int->Q (.int ns.sum) H1->tSumV_ Q x H1
def EU (td:TE):TE:=fun σ H Q=>td σ H fun x H1=>tSumV_ Q x H1
theorem EV {e:O5}{td:TE}{p KB Kl pos:Pos} (hc:X.calm=true) (hg:Gl X "sum") (hm:X.mg "sum"=none) (he:PE X e td)
  (Nw:starEach [Expr.Call (.Attribute e "values" KB) [] [] Kl] X.env=(false,eval (Expr.Call (.Attribute e "values" KB) [] [] Kl) X.env)::starEach [] X.env:=by rfl)
  (ML:attributeBase e "values" X.env (eval e X.env)=eval e X.env:=by rfl) (MM:(KB.endLine==Kl.line)=true:=by rfl):
  PE X (.Call (.Name "sum" p) [.Call (.Attribute e "values" KB) [] [] Kl] [] pos) (EU td):=by
 intro J' s σ H Q I h;refine Bn (dg I hg hm (by first|exact Da|rfl|ac_nf) ?_ (by decide) (by decide));refine D5 ?_ Nw (by rfl);rw[Nw];show wpAny _ _ (spliced ((false,eval (Expr.Call (.Attribute e "values" KB) [] [] Kl) X.env)::backTo pos (starEach [] X.env))) _ _ s;refine D1 ?_;refine wpAny_Call_method0_late ML MM (thn (he J' s σ H _ I h) fun v s1 ⟨x,H1,I1,r1,q1⟩=> ?_);obtain⟨d,Kb,ns,rfl,hrd,hns,q⟩:=q1;cases r1;obtain⟨hT,Kx,hsys⟩:=qU I1 (.inr ⟨Kb,hrd⟩);obtain⟨z,y,xs,Kq,o,es,ep,h1,h2,h3,h4,h5⟩:=(show aI X.prog X.w H1 s1.heap d (.dT Kb) from jF I1.hok hrd);refine⟨"dict","dict.values",PySem.F.plainAttrs_dict,PySem.F.slot_dict_values,PySem.F.type_dict_values,hT,Kx,Calls.callWith_builtin rfl (PySem.evalArgs_none (EH hsys h1 h2 (A3 ?_)))⟩;show wpAny _ _ (call (.builtin "sum") [.ref s1.heap.objs.size]) _ _ _;have h1':(s1.heap.push {cls:= .type "dict_values",data:= .fields #[.ref d]}).get? d=some o:=A4 _ h1;have hdl:d<s1.heap.objs.size:=AM h1;have hsz:es.size=Kb.length:=by rw[<-BC,h4,A1,<-CC Kq]
 have hnl:ns.length=Kb.length:=by have:=BN List.length hns;simpa using this.symm
 refine call_sum_walkAnyS (EI (s:={s1 with heap:=s1.heap.push {cls:= .type "dict_values",data:= .fields #[.ref d]}}) ⟨_,AI _ rfl,rfl,rfl⟩ h1' h3 ?_);refine⟨_,_,_,_,_,_,_,fun i=>ns.getD i 0,rfl,(EL (A:=X.A.in1) (I.ok.hd hc) (s1.heap.push {cls:= .type "dict_values",data:= .fields #[.ref d]}).objs.size d (by rw[B4];exact AT (Ak hdl)) h3).toS,⟨⟨_,AI _ rfl,rfl,rfl⟩,A4 _ h1'⟩, ?_, ?_, ?_⟩
 .intro b hb;simp only[AJ,As,Bq] at hb;rcases hb with rfl|rfl
  .show _<(Heap.push (s1.heap.push _) _).objs.size;rw[B4 (s1.heap.push _)];exact BW _
  .show _<(Heap.push (s1.heap.push _) _).objs.size;rw[B4,B4];exact Ak (Ak hdl)
 .rintro i v ⟨e,hei,rfl⟩;rw[<-Bt,h4,AF] at hei;obtain⟨q',hq',rfl⟩:=AC.mp hei;have hi:i<Kb.length:=by rw[CC Kq];exact(AD.mp hq').1
  obtain⟨q2,hq2,e1,e2,e3⟩:=mn Kq (A2 hi);rw[hq'] at hq2;cases hq2;have:Kb[i].2=V.int (ns.getD i 0):=by
   have z1:(Kb.map (·.2))[i]? =some Kb[i].2:=by rw[AF,A2 hi];rfl
   rw[hns,AF,A2 (by lia)] at z1;simp only[Option.map_some,Option.some.injEq] at z1;rw[<-z1,A7,A2 (by lia)];rfl
  rw[this] at e3;exact e3
 .intro s' t' hm';obtain⟨h',g',d',tk',Oc⟩:=s';have eg:g'=s1.gens:=hm'.gens;have ed:d'=s1.drawn:=hm'.drawn;have eo:Oc=s1.os:=hm'.os;subst eg;subst ed;subst eo;have es:preSum (fun i=>ns.getD i 0) es.size=ns.sum:=by rw[hsz,<-hnl,tG ns ns.length (AB _),AR]
  rw[es];refine⟨.int ns.sum,H1,I1.kept fun b o e=>hm'.heap b o (fun hb=> ?_) (A4 _ (A4 _ e)),⟨t',rfl⟩,q⟩;simp only[AJ,As,Bq] at hb;have:=AM e;rw[hb,B4] at this;exact absurd this (Nat.not_lt.mpr (DB _))
end
section
variable {X:Cx}
theorem mo:OpR X (binaryOp .Add) (fun x y H Q=>∃xs ys,Is H (.t xs) x/\Is H (.t ys) y/\xs.length+ys.length<=sizeLine/\∀v H2,ae H H2->Is H2 (.t (xs++ys)) v->Q v H2):=by
 intro J' s σ H x y v u Q I rx ry h;obtain⟨xs,ys,hx,hy,hz,q⟩:=h;obtain⟨a,vs,rfl,ha,ra⟩:=bH hx;obtain⟨b,ws,rfl,hb,rb⟩:=bH hy;have l1:=ra.length;have l2:=rb.length;by_cases h1:vs=[]
 .subst h1;have hx0:xs=[]:=CN.mp (by rw[<-l1];rfl);subst hx0;cases rx;cases ry;obtain⟨Kd,r1,p1,_⟩:=I.tuple (SqT.of (K:=X.K) ha);obtain⟨LA,r2,p2,_⟩:=I.tuple (SqT.of (K:=X.K) hb);cases r1;obtain⟨⟨cls,dd,data,sl⟩,ho,hc,n,hd⟩:=p1;obtain⟨⟨Nt,LO,data2,LP⟩,K5,LQ,n2,Lw⟩:=p2;simp only at hc hd LQ Lw;subst hc hd LQ Lw;exact concat_meets ⟨_,ho,rfl⟩ ⟨_,K5,rfl⟩ noFill_tuple_add seq_tuple_add PySem.F.slot_tuple_add PySem.F.entry_tuple_add (PySem.F.args_tuple_add_2 _ _) (tuple_addW0 a b _ _ n n2 dd LO sl LP (by simp)) ⟨ho,K5,⟨.ref b,H,I,rfl,q _ H (ae.refl H) hy⟩⟩
 .refine yh J' s σ H (.ref a) (.ref b) v u Q I rx ry ⟨a,b,vs,ws,rfl,rfl,SqT.of ha,SqT.of hb,h1,by lia,fun e=> ?_,fun _ p np=> ?_⟩
  .have:ys=[]:=CN.mp (by rw[<-l2,e];rfl);subst this;exact q _ H (ae.refl H) (by rw[B5];exact hx)
  .exact q _ _ (ae.new np) (bw ak ((ra.append rb).mono (ae.new np)))
theorem tH:SlR X (fun x lo hi H Q=>∃xs LR,Is H (.t xs) x/\(∀(H':Hp) (vs:O4 V),Iss H' xs vs->Iss H' LR (b8 vs lo hi))/\(∀vs:O4 V,vs.length=xs.length->(HT.sIx vs.length 0 lo=0/\HT.sIx vs.length vs.length hi=vs.length)->LR=xs)/\∀v H2,ae H H2->Is H2 (.t LR) v->Q v H2):=by
 intro J' s σ H x v vl vu lo hi sl Q I rx hs pl pu h;obtain⟨xs,LR,hx,hc,hw,q⟩:=h;obtain⟨a,vs,rfl,ha,ra⟩:=bH hx;refine Dz J' s σ H (.ref a) v vl vu lo hi sl Q I rx hs pl pu ⟨a,vs,rfl,SqT.of ha,fun e=> ?_,fun e p np=> ?_⟩
 .have:=hw vs ra.length e;subst this;exact q _ H (ae.refl H) hx
 .exact q _ _ (ae.new np) (bw ak ((hc _ _ ra).mono (ae.new np)))
end
def LTS (H H':Hp):Prop:=(∀b xs,H b=some (.lst xs)->H' b=some (.lst xs))/\∀b xs,H b=some (.tup xs)->H' b=some (.tup xs)
theorem LTS.dict {o:HO} (h:H d=some (.dT Kb)):LTS H (upd H d o):=
 ⟨fun b xs e=>by rw[ax (by rintro rfl;rw[h] at e;cases e)];exact e,fun b xs e=>by rw[ax (by rintro rfl;rw[h] at e;cases e)];exact e⟩
theorem LTS.rd (h:Rd H d (.dT Kb)) (k:∀b,b≠d->H' b=H b):LTS H H':=by
 have nd:∀b o,H b=some o->(∀Kb,o≠ .dT Kb)->(∀ob u,o≠ .frz ob u)->b≠d:=by
  rintro b o e n1 n2 rfl;rcases h with h|⟨ob,h⟩
  .rw [h] at e;cases e;exact n1 _ rfl
  .rw [h] at e;cases e;exact n2 _ _ rfl
 exact⟨fun b xs e=>by rw[k b (nd b _ e (fun _ z=>nomatch z) fun _ _ z=>nomatch z)];exact e,fun b xs e=>by rw[k b (nd b _ e (fun _ z=>nomatch z) fun _ _ z=>nomatch z)];exact e⟩
mutual
theorem Is.lts {H H':Hp} (s:LTS H H'):∀{d:D}{v:V},Is H d v->Is H' d v
 | .i _,_,h=>by rw[az h];exact bv
 | .l xs,_,h=>by
  obtain⟨a,vs,e,q,r⟩:=aB h;rw[e];exact aD (s.1 _ _ q) (Iss.lts s r)
 | .t xs,_,h=>by
  obtain⟨a,vs,e,q,r⟩:=bH h;rw[e];exact bw (s.2 _ _ q) (Iss.lts s r)
theorem Iss.lts {H H':Hp} (s:LTS H H'):∀{xs:O4 D}{vs:O4 V},Iss H xs vs->Iss H' xs vs
 |[],_,h=>by rw[bp h];exact ap
 |x::xs,_,h=>by
  obtain⟨u,us,e,q,r⟩:=aQ h;rw[e];exact am (Is.lts s q) (Iss.lts s r)
end
section
variable {prog:O0}{w:O2}{K:Type} [DecidableEq K] {knd:KeyKind prog w K}
inductive ItemsT (knd:KeyKind prog w K) (h:Heap):List (List K)->List Value->Prop
 |nil:ItemsT knd h [] []
 |cons {k:List K}{a:Addr}{ks:List (List K)}{vs:List Value}:IsTupleKey knd h k a->ItemsT knd h ks vs->ItemsT knd h (k::ks) (.ref a::vs)
def cG (knd:KeyKind prog w K) (h:O6) (ks:O4 (O4 K)) (a:OZ):Prop:=∃o items n,h.get? a=some o/\o.cls= .type "tuple"/\o.data= .seq items n/\ItemsT knd h ks items.toList
theorem ItemsT.inj {h:O6}{x y:O4 (O4 K)}{vs:O4 MR} (hx:ItemsT knd h x vs) (hy:ItemsT knd h y vs):x=y:=by
 induction hx generalizing y with
 |nil=>cases hy;rfl
 |cons h1 _ ih=>
  cases hy with
  |cons h2 t2=>rw[h1.inj h2,ih t2]
theorem ItemsT.keeps {h h':O6}{x:O4 (O4 K)}{vs:O4 MR}{d:OZ}{o:Obj}{es ep} (hx:ItemsT knd h x vs) (ho:h.get? d=some o) (hd:o.data= .dict es ep) (hs:Heap.SameBut d h h'):ItemsT knd h' x vs:=by
 induction hx with
 |nil=>exact .nil
 |cons h1 _ ih=>exact .cons (h1.keeps ho hd hs) ih
def cG.typeIs {s:OY}{ks:O4 (O4 K)}{a:OZ} (x:cG knd s.heap ks a):s.TypeIs (.ref a) "tuple":=let ⟨o,_,_,ho,hc,_⟩:=x;⟨o,ho,hc⟩
theorem cG.inj {h:O6}{a:OZ}{x y:O4 (O4 K)} (hx:cG knd h x a) (hy:cG knd h y a):x=y:=by
 obtain⟨o,items,n,ho,_,hd,hi⟩:=hx;obtain⟨o',Oy,n',KJ,_,Ll,Lq⟩:=hy;obtain rfl:o=o':=Ao (ho.symm.trans KJ);rw[hd] at Ll;injection Ll with h1 _;subst h1;exact hi.inj Lq
theorem cG.keeps {h h':O6}{ks:O4 (O4 K)}{a d:OZ}{o:Obj}{es ep} (x:cG knd h ks a) (ho:h.get? d=some o) (hd:o.data= .dict es ep) (hs:Heap.SameBut d h h'):cG knd h' ks a:=by
 obtain⟨o',items,n,KJ,hc,Ll,hi⟩:=x;have Kt:a≠d:=by
  rintro rfl;obtain rfl:o'=o:=Ao (KJ.symm.trans ho);rw[hd] at Ll;exact nomatch Ll
 exact⟨o',items,n,(hs.2 a Kt).trans KJ,hc,Ll,hi.keeps ho hd hs⟩
def mq (knd:KeyKind prog w K) (ks:O4 (O4 K)):Int:=reduceHash (Builtin.Tuple.tupleHashOf (ks.map (tupleKeyHash knd)))
def mr (ks:O4 (O4 K)):Nat:=(ks.map fun k=>k.length+1).sum+1
variable {A:O3}{E:MR->OY->Prop}{s:OY}
theorem EW {ks:O4 (O4 K)}{a:OZ}{Q:Int->OY->Prop} (hu:A.units+1<cLine) (hk:cG knd s.heap ks a) (h:Q (mq knd ks) {s with toks:=s.toks+mr ks}):
  wpAny (model prog w) A (pyHash (.ref a)) Q E s:=by
 have hT:=hk.typeIs;obtain⟨o,items,n,ho,_,hd,hi⟩:=hk;unfold pyHash;first|unfold pyHashByItsType|skip
 first|refine A0 (wpAny_cRoomFor_or (.inr (by lia)) ?_)|skip
 refine A0 (Bv hT Bs.lookup ?_);show wpAny _ _ (if(some (Value.builtin "tuple.__hash__")==some Value.none)=true then _ else _) Q E s;rw[A6 (by rw[beq_builtin_none];exact AZ)];refine A0 (Bv hT Bs.lookup ?_);show wpAny _ _ (callSpecialIfBoundUnlessNone? (.ref a) "__hash__" _>>=_) Q E s;refine A0 (wpAny_callSpecialIfBoundUnlessNone?_slot hT Bs (Ai Bs hT F.entry_tuple_hash ?_ (F.args_tuple_hash_1 _)));show wpAny _ _ (Builtin.Tuple.tupleItemsOf (.ref a)>>=_) _ _ s;refine A0 (CW ho hd ?_);refine A0 ?_;rw[<-CA];refine Ba _
  (fun aJ (b:Array Int) s'=>∃done left,ks=done++left/\ItemsT knd s.heap left aJ/\b.toList=done.map (tupleKeyHash knd)/\s'={s with toks:=s.toks+(done.map fun k=>k.length+1).sum})
  _ ?_ ?_ _ _ ⟨[],ks,rfl,hi,rfl,rfl⟩
 .rintro x aJ b s' ⟨done,left,rfl,hl,hb,rfl⟩;cases hl with
  | @cons k a1 ks' _ h1 Mo=>
   refine A0 (wpAny_pyHash_tuple (knd:=knd) (ks:=k) (by first|exact hu|(rw[b9];lia)|(simp;lia)) h1 ?_);first
    |exact A3 ⟨done++[k],ks',by simp,Mo,by simp[hb],by simp[C7]⟩
    |exact A0 (A3 (A3 ⟨done++[k],ks',by simp,Mo,by simp[hb],by simp[C7]⟩))
 .rintro b s' ⟨done,left,rfl,hl,hb,rfl⟩;cases hl;rw[B5] at h;show wpAny _ _ (retInt (Builtin.Tuple.tupleHashOf b.toList)) _ _ _;rw[hb];refine wpAny_ret_mkInt ?_;show wpAny _ _ (if(decide (-(2:Int)^63<=Builtin.Tuple.tupleHashOf (done.map (tupleKeyHash knd)))&&decide (Builtin.Tuple.tupleHashOf (done.map (tupleKeyHash knd))<2^63))=true then _ else _) Q E _;unfold mq reduceHash mr at h;by_cases hr:(decide (-(2:Int)^63<=Builtin.Tuple.tupleHashOf (done.map (tupleKeyHash knd)))&&decide (Builtin.Tuple.tupleHashOf (done.map (tupleKeyHash knd))<2^63))=true
  .rw [A8 hr];rw[A8 hr] at h;exact A3 (by simpa[C7] using h)
  .rw [A6 hr];rw[A6 hr] at h;exact A0 (Bz (A3 (by simpa[C7] using h)))
theorem EX {x y:O4 (O4 K)}{a b:OZ}{P:Fin->OY->Prop} (hu:A.units<cLine) (hx:cG knd s.heap x a) (hy:cG knd s.heap y b) (h:P (.done (.ret (.bool (decide (x=y))))) s):
  wpAny (model prog w) A (Builtin.«tuple.__eq__» ⟨[.ref a, .ref b],[]⟩) P E s:=by
 have hTb:=hy.typeIs;obtain⟨oa,xs,na,hoa,_,Kp,hia⟩:=hx;obtain⟨ob,ys,nb,NW,_,MK,Nx⟩:=hy;show wpAny _ _ (isInstance (.ref b) (.type "tuple")>>=_) _ _ s;refine A0 (Bo hTb Cc ?_);simp only[B8,AG,Am];refine A0 (CW hoa Kp ?_);refine A0 (CW NW MK ?_);refine A0 ?_;refine Ba _
  (fun aJ r s'=>r.1=none/\s'=s/\∃x' y' LR MW,aJ=List.zip LR MW/\ItemsT knd s.heap x' LR/\ItemsT knd s.heap y' MW/\decide (x'=y')=decide (x=y)/\(LR.length==MW.length)=(xs.size==ys.size))
  _ ?_ ?_ _ _ ⟨rfl,rfl,x,y,xs.toList,ys.toList,rfl,hia,Nx,rfl,by simp⟩
 .rintro⟨u,v⟩ aJ r s' ⟨hr,rfl,x',y',LR,MW,hz,Ku,Lk,Lc,Ke⟩;cases Ku with
  |nil=>simp at hz
  | @cons k1 a1 x'' xs'' h1 hx''=>
   cases Lk with
   |nil=>simp at hz
   | @cons k2 a2 Ni ys'' h2 Me=>
    simp only[DP,CF,D8] at hz;obtain⟨⟨rfl,rfl⟩,rfl⟩:=hz;refine A0 (wpAny_eqBool_tuple (knd:=knd) (x:=k1) (y:=k2) (by first|exact hu|(rw[b9];lia)|(simp;lia)) h1 h2 ?_);by_cases hk:k1=k2
    .subst hk;rw[Ag rfl];simp only[B8,AG,Am];refine A3 ⟨rfl,rfl,x'',Ni,xs'',ys'',rfl,hx'',Me, ?_,by simpa using Ke⟩;rw[<-Lc];by_cases N1:x''=Ni
     .simp [N1]
     .simp [N1]
    .rw [AX hk];simp only[Cb,C1];have hf:decide (x=y)=false:=by rw[<-Lc];simp[hk]
     rw[hf] at h;exact A0 (A3 (A3 (A3 h)))
 .rintro⟨r1,r2⟩ s' ⟨hr,rfl,x',y',LR,MW,hz,Ku,Lk,Lc,Ke⟩;simp only at hr;subst hr;refine A3 ?_;have Oz:(xs.size==ys.size)=decide (x=y):=by
   rw[<-Lc,<-Ke];cases Ku with
   |nil=>
    cases Lk with
    |nil=>simp
    |cons _ _=>simp
   |cons _ _=>
    cases Lk with
    |nil=>simp
    |cons _ _=>simp at hz
  show P (.done (.ret (.bool (xs.size==ys.size)))) s';rw[Oz];exact h
theorem EY {x y:O4 (O4 K)}{a b:OZ}{Q:Bool->OY->Prop} (hu:A.units+1<cLine) (hx:cG knd s.heap x a) (hy:cG knd s.heap y b) (h:Q (decide (x=y)) s):
  wpAny (model prog w) A (eqBool (.ref a) (.ref b)) Q E s:=by
 unfold eqBool;try with_reducible refine Az ?_
 show wpAny _ _ (if(Value.ref a==Value.ref b)=true then _ else _) Q E s;by_cases ND:(Value.ref a==Value.ref b)=true
 .rw [A8 ND];have e:a=b:=by have:=eq_of_beq ND;injection this
  subst e;obtain rfl:=hx.inj hy;exact A0 (Bz (A3 (by simpa using h)))
 .rw [A6 ND];exact A0 (wpAny_richCompare_same_room (op:= .Eq) hx.typeIs hy.typeIs Ca
   (Ai Ca hx.typeIs F.entry_tuple_eq (EX (by first|lia|(rw[b9];lia)|(simp;lia)) hx hy ⟨_,rfl,(fun e=>nomatch e),B9 h⟩) (F.args_tuple_eq_2 _ _)) (by lia))
theorem tJ {ks:O4 K}{a:OZ}{n:Nat}{Q:Bool->OY->Prop} (hk:IsTupleKey knd s.heap ks a) (h:Q true s):wpAny (model prog w) A (eqIsQuiet (n+1) (.ref a)) Q E s:=by
 have hT:=hk.typeIs;obtain⟨o,items,n,ho,_,hd,hi⟩:=hk;unfold eqIsQuiet;refine A0 (Bv hT Ca.lookup ?_);show wpAny _ _ (isInstance (.ref a) (.type "tuple")>>=_) _ _ s;refine A0 (Bo hT Cc ?_);simp only[B8,AG,Am];refine A0 (Bi ho hd ?_);refine A0 ?_;show wpAny _ _ (forIn items _ _) _ _ s;rw[<-CA];refine Ba _ (fun aJ r s'=>r.1=none/\s'=s/\∀v∈aJ,carriedByValue v=true) _ ?_ ?_ _ _ ⟨rfl,rfl,hi.byValue⟩
 .rintro v aJ r s' ⟨hr,rfl,KE⟩;rw[eqIsQuiet_byValue _ (KE v AH)];refine A0 (A3 ?_);simp only[B8,AG,Am];exact A3 ⟨rfl,rfl,fun u Os=>KE u (AL _ Os)⟩
 .rintro⟨r1,r2⟩ s' ⟨hr,rfl,_⟩;simp only at hr;subst hr;exact A3 h
theorem EZ {ks:O4 (O4 K)}{a:OZ}{Q:Bool->OY->Prop} (hk:cG knd s.heap ks a) (h:Q true s):wpAny (model prog w) A (eqIsQuiet 8 (.ref a)) Q E s:=by
 have hT:=hk.typeIs;obtain⟨o,items,n,ho,_,hd,hi⟩:=hk;unfold eqIsQuiet;refine A0 (Bv hT Ca.lookup ?_);show wpAny _ _ (isInstance (.ref a) (.type "tuple")>>=_) _ _ s;refine A0 (Bo hT Cc ?_);simp only[B8,AG,Am];refine A0 (Bi ho hd ?_);refine A0 ?_;show wpAny _ _ (forIn items _ _) _ _ s;rw[<-CA];refine Ba _ (fun aJ r s'=>r.1=none/\s'=s/\∃x,ItemsT knd s.heap x aJ) _ ?_ ?_ _ _ ⟨rfl,rfl,ks,hi⟩
 .rintro v aJ r s' ⟨hr,rfl,x,KE⟩;cases KE with
  |cons h1 ht=>
   refine A0 (tJ h1 ?_);simp only[B8,AG,Am];exact A3 ⟨rfl,rfl,_,ht⟩
 .rintro⟨r1,r2⟩ s' ⟨hr,rfl,_⟩;simp only at hr;subst hr;exact A3 h
end
def tL {prog:O0}{w:O2}{K:Type} [DecidableEq K] (knd:KeyKind prog w K):HeapKind prog w (O4 (O4 K)) where
 is:=cG knd
 hash:=mq knd
 draws:=mr
 room:=fun A=>A.units+1<cLine
 inj:=fun hx hy=>hx.inj hy
 keeps:=fun x ho hd hs=>x.keeps ho hd hs
 pyHash:=fun hu hk h=>EW hu hk h
 eqBool:=fun hu hx hy h=>EY hu hx hy h
 quiet:=fun hk h=>EZ hk h
theorem fx {A:O3}{k:Nat} (hr:Room k A):A.units+2<cLine:=by have:=hr.un;lia
class KOk {P:O0}{w:O2}{κ:Type} [DecidableEq κ] (hk:HeapKind P w κ) (IK:Hp->κ->V->Prop):Prop where
 of:∀{H:Hp}{h:O6}{k:κ}{a:OZ},HOk P w H h->IK H k (.ref a)->hk.is h k a
 ref:∀{H:Hp}{k:κ}{y:V},IK H k y->∃b,y= .ref b
 keeps:∀{H H':Hp},(∀b ys,H b=some (.tup ys)->H' b=some (.tup ys))->∀{k:κ}{v:V},IK H k v->IK H' k v
 room1:∀{A:O3},A.units+1<cLine->hk.room A
section
variable {P:O0}{w:O2}{κ:Type} [DecidableEq κ] {hk:HeapKind P w κ}{IK:Hp->κ->V->Prop}{H:Hp}{h:O6}{a:OZ}
theorem KOk.room (F:KOk hk IK) {A:O3} (hu:A.units+2<cLine):hk.room A.in1:=F.room1 (by rw[b9];lia)
theorem KOk.rf (F:KOk hk IK) {k:κ}{y:V}{u:MR} (h:IK H k y) (r:av y u):∃b,y= .ref b/\u= .ref b:=by
 obtain⟨b,rfl⟩:=F.ref h;exact⟨b,rfl,r⟩
def gE (hk:HeapKind P w κ) (xs:O4 (κ×OZ×MR)) (a:OZ) (h:O6):Prop:=
 ∃o es ep,h.get? a=some o/\o.ExactDict/\o.data= .dict es ep/\es.toList=xs.map (entryOfKey hk)/\(xs.map (·.1)).Nodup
abbrev GT (IK:Hp->κ->V->Prop) (H:Hp):O4 (κ×V)->O4 (κ×OZ×MR)->Prop:=Paired fun p q=>p.1=q.1/\IK H p.1 (.ref q.2.1)/\av p.2 q.2.2
def DG (hk:HeapKind P w κ) (IK:Hp->κ->V->Prop) (H:Hp) (a:OZ) (Kb:O4 (κ×V)):Prop:=Kb.length<=sizeLine/\(a==sysModules)=false/\∃xs,GT IK H Kb xs/\H a=some (.ext (gE hk xs a))
theorem gO [F:KOk hk IK] {Kb:O4 (κ×V)} (ok:HOk P w H h) (e:DG hk IK H a Kb):Kb.length<=sizeLine/\(a==sysModules)=false/\∃xs,GT IK H Kb xs/\H a=some (.ext (gE hk xs a))/\h.DictOfH hk a xs:=by
 obtain⟨z,y,xs,r,e⟩:=e;obtain⟨⟨o,es,ep,h1,h2,h3,h4,h5⟩,_,_⟩:=(show aI P w H h a (.ext (gE hk xs a)) from ok a _ e);refine⟨z,y,xs,r,e,o,es,ep,h1,h2,h3,h4,fun x hx=> ?_,h5⟩;have all:∀{l:O4 (κ×V)}{m:O4 (κ×OZ×MR)},GT IK H l m->∀x∈m,hk.is h x.1 x.2.1:=by
  intro l m q;induction q with
  |nil=>intro x hx;exact nomatch hx
  | @cons p q ps qs hq t ih=>
   intro x hx;rcases AJ.mp hx with e|hx
   .subst e;exact F.of ok (by rw[<-hq.1];exact hq.2.1)
   .exact ih x hx
 exact all r x hx
theorem mw {xs:O4 (κ×OZ×MR)}{H':Hp} (d:∃o es ep,h.get? a=some o/\o.ExactDict/\o.data= .dict es ep/\es.toList=xs.map (entryOfKey hk)/\(xs.map (·.1)).Nodup):aI P w H' h a (.ext (gE hk xs a)):=by
 refine⟨d,let ⟨o,_,_,h1,_⟩:=d;⟨o,h1⟩,fun h1 h2 f k=> ?_⟩;obtain⟨o,es,ep,e1,r⟩:=f;exact⟨o,es,ep,k o e1,r⟩
theorem GT.val {Kb:O4 (κ×V)}{xs:O4 (κ×OZ×MR)} (r:GT IK H Kb xs) (k:κ):cz (bJ Kb k) ((atKey xs k).map (·.2)):=by
 induction r with
 |nil=>exact True.intro
 | @cons p q ps qs h t ih=>
  obtain⟨h1,_,h2⟩:=h;by_cases e:p.1=k
  .have e':q.1=k:=h1.symm.trans e;have b:atKey (q::qs) k=some q.2:=by simp[atKey,BV,e']
   rw[iy e,b];exact h2
  .have e':¬q.1=k:=fun z=>e (h1.trans z);have b:atKey (q::qs) k=atKey qs k:=by simp[atKey,BV,e']
   rw[iz e,b];exact ih
theorem GT.repl {Kb:O4 (κ×V)}{xs:O4 (κ×OZ×MR)} (r:GT IK H Kb xs) (k:κ) {y:V}{u:MR} (ry:av y u):
  GT IK H (Kb.map fun kv=>if kv.1=k then(kv.1,y) else kv) (xs.map (putAt k u)):=by
 induction r with
 |nil=>exact .nil
 | @cons p q ps qs h t ih=>
  rw[AK,AK];refine .cons ?_ ih;obtain⟨h1,h2,h3⟩:=h;unfold putAt;by_cases e:p.1=k
  .rw [A8 e,A8 (h1.symm.trans e)];exact⟨h1,h2,ry⟩
  .rw [A6 e,A6 (fun z=>e (h1.trans z))];exact⟨h1,h2,h3⟩
theorem GT.put {Kb:O4 (κ×V)}{xs:O4 (κ×OZ×MR)} (r:GT IK H Kb xs) (k:κ) {b:OZ}{y:V}{u:MR} (hb:IK H k (.ref b)) (ry:av y u):
  GT IK H (bD Kb k y) (storedH xs k b u):=by
 have e:(Kb.any fun kv=>decide (kv.1=k))=(atKey xs k).isSome:=by
  rw[lv,(r.val k).isSome_eq,Option.isSome_map]
 unfold bD storedH;rw[e];by_cases q:(atKey xs k).isSome=true
 .rw [A8 q,A8 q];exact r.repl k ry
 .rw [A6 q,A6 q];exact Paired.snoc r ⟨rfl,hb,ry⟩
theorem GT.keeps (F:KOk hk IK) {H':Hp}{Kb:O4 (κ×V)}{xs:O4 (κ×OZ×MR)} (r:GT IK H Kb xs) (ht:∀b ys,H b=some (.tup ys)->H' b=some (.tup ys)):GT IK H' Kb xs:=
 Paired.mapP r fun _ _ z=>⟨z.1,F.keeps ht z.2.1,z.2.2⟩
theorem DG.keeps [F:KOk hk IK] {H':Hp}{Kb:O4 (κ×V)} (d:DG hk IK H a Kb) (ha:H' a=H a) (ht:∀b ys,H b=some (.tup ys)->H' b=some (.tup ys)):DG hk IK H' a Kb:=by
 obtain⟨z,y,xs,r,e⟩:=d;exact⟨z,y,xs,r.keeps F ht,ha.trans e⟩
theorem DG.mono [F:KOk hk IK] {H':Hp}{Kb:O4 (κ×V)} (s:ae H H') (d:DG hk IK H a Kb):DG hk IK H' a Kb:=by
 obtain⟨z,y,xs,r,e⟩:=d;exact⟨z,y,xs,r.keeps F fun b ys=>s b _,s _ _ e⟩
theorem DG.mut {Kb:O4 (κ×V)} (d:DG hk IK H a Kb):Mut (H a):=by
 obtain⟨_,_,xs,_,e⟩:=d;rw[e];exact True.intro
theorem DG.ntup {Kb:O4 (κ×V)} (d:DG hk IK H a Kb) {b:OZ}{ys:O4 V} (e:H b=some (.tup ys)):b≠a:=by
 obtain⟨_,_,xs,_,e2⟩:=d;rintro rfl;rw[e2] at e;cases e
theorem tM {p:OZ} (hp:p=h.objs.size) (hb:sysModules<h.objs.size):DG hk IK (upd H p (.ext (gE hk [] p))) p []:=by
 subst hp;exact⟨AQ _,DF.mpr (Ne.symm (AT hb)),[], .nil,ak⟩
def tN (h:O6):aI P w H (h.push {cls:= .type "dict",data:= .dict #[]}) h.objs.size (.ext (gE hk [] h.objs.size)):=
 mw ⟨_, #[],0,AI _ rfl,⟨rfl,rfl,rfl⟩,rfl,rfl,List.nodup_nil⟩
end
section
variable {X:Cx}{κ:Type} [DecidableEq κ] {hk:HeapKind X.prog X.w κ}{IK:Hp->κ->V->Prop}{J':O4 (OZ×Obj)}{σ:St}{H:Hp}{s:OY}{a b:OZ}{v:V}{r:MR}{A:O3}{E:MR->OY->Prop}{Kb:O4 (κ×V)}{ks:κ}
theorem E1 [F:KOk hk IK] {Q:MR->OY->Prop} (hu:A.units+2<cLine) (I:Inv X J' σ H s) (d:DG hk IK H a Kb) (k:IK H ks (.ref b)) (l:bJ Kb ks=some v) (h:∀w' s',Inv X J' σ H s'->av v w'->Q w' s'):
  wpAny (model X.prog X.w) A (getItem (.ref a) (.ref b)) Q E s:=by
 obtain⟨z,hd,xs,Kq,_,dd⟩:=gO I.hok d;obtain⟨w',hw,LB⟩:=cz.some_of (v:=v) (o:=(atKey xs ks).map (·.2)) (by rw[<-l];exact Kq.val ks);obtain⟨p,hp,hp2⟩:=AC.mp hw;refine wpAny_getItem_heap (F.room hu) (F.of I.hok k) dd hp ?_;rw[hp2];exact h w' _ (I.tok _) LB
theorem E3 [F:KOk hk IK] {Q:MR->OY->Prop} (hu:A.units+2<cLine) (I:Inv X J' σ H s) (d:DG hk IK H a Kb) (k:IK H ks (.ref b)) (h:∀s',Inv X J' σ H s'->Q (.bool (!(bJ Kb ks).isSome)) s'):
  wpAny (model X.prog X.w) A (compareOp .NotIn (.ref b) (.ref a)) Q E s:=by
 obtain⟨z,hd,xs,Kq,_,dd⟩:=gO I.hok d;refine wpAny_notIn_heap (F.room hu) (F.of I.hok k) hd dd ?_;have q:=(Kq.val ks).isSome_eq;rw[Option.isSome_map] at q;rw[<-q];exact h _ (I.tok _)
theorem E4 [F:KOk hk IK] {Q:Unit->OY->Prop} (hu:A.units+2<cLine) (I:Inv X J' σ H s) (d:DG hk IK H a Kb) (k:IK H ks (.ref b)) (hl:Kb.length<sizeLine) (rv:av v r)
  (h:∀H' s',DG hk IK H' a (bD Kb ks v)->(∀b,b≠a->H' b=H b)->Inv X J' σ H' s'->Q () s'):wpAny (model X.prog X.w) A (setItem (.ref a) (.ref b) r) Q E s:=by
 obtain⟨z,hd,xs,Kq,e,dd⟩:=gO I.hok d;have hz:xs.length<=sizeLine:=by rw[<-CC Kq];exact z
 have Mo:(bD Kb ks v).length<=sizeLine:=by have:=lw Kb ks v;lia
 refine wpAny_setItem_heap (hsz:=hz) (F.room hu) (F.of I.hok k) dd fun h' Ng hs=> ?_;obtain⟨q,es,ep,hq,h2,h3,h4,_,h5⟩:=Ng;refine h (upd H a (.ext (gE hk (storedH xs ks b r) a))) _ ⟨Mo,hd,_,(Kq.put ks k rv).keeps F fun c ys ec=> ?_,ak⟩ (fun c hc=>ax hc) (gz I d.mut hs ⟨q,hq⟩ (mw ⟨q,es,ep,hq,h2,h3,h4,h5⟩));rw[ax (d.ntup ec)];exact ec
theorem E5 [F:KOk hk IK] (I:Inv X J' σ H s) (d:DG hk IK H a Kb):s.TypeIs (.ref a) "dict"/\(∀b,Value.ref a= .ref b->∃ob,s.heap.get? b=some ob/\ob.dict=none)/\(a==sysModules)=false:=by
 obtain⟨_,hd,xs,_,_,dd⟩:=gO I.hok d;refine⟨dd.typeIs,fun b q=> ?_,hd⟩;cases q;obtain⟨ob,_,_,h1,h2,_⟩:=dd;exact⟨ob,h1,h2.2.1⟩
end
section
variable {P:O0}{w:O2}{κ:Type} [DecidableEq κ]
inductive tGGet_ (hk:HeapKind P w κ) (IK:Hp->κ->V->Prop) (Q:VK) (x:V) (y:V) (H2:Hp):Prop
 |mk a Kb ks v:x= .ref a->DG hk IK H2 a Kb->IK H2 ks y->bJ Kb ks=some v->Q v H2->tGGet_ hk IK Q x y H2
def mx (hk:HeapKind P w κ) (IK:Hp->κ->V->Prop) (td ty:TE):TE:=fun σ H Q=>td σ H fun x H1=>ty σ H1 fun y H2=>tGGet_ hk IK Q x y H2
inductive tGNotIn_ (hk:HeapKind P w κ) (IK:Hp->κ->V->Prop) (Q:VK) (y:V) (x:V) (H2:Hp):Prop
 |mk a Kb ks:x= .ref a->DG hk IK H2 a Kb->IK H2 ks y->Q (.bl (!(bJ Kb ks).isSome)) H2->tGNotIn_ hk IK Q y x H2
def my (hk:HeapKind P w κ) (IK:Hp->κ->V->Prop) (ty td:TE):TE:=fun σ H Q=>ty σ H fun y H1=>td σ H1 fun x H2=>tGNotIn_ hk IK Q y x H2
inductive sGPut_ (hk:HeapKind P w κ) (IK:Hp->κ->V->Prop) (D:Ends) (σ:St) (v:V) (x:V) (y:V) (H3:Hp):Prop
 |mk a Kb ks:x= .ref a->DG hk IK H3 a Kb->IK H3 ks y->Kb.length<sizeLine->(∀H4,DG hk IK H4 a (bD Kb ks v)->(∀b,b≠a->H4 b=H3 b)->D.nx σ H4)->sGPut_ hk IK D σ v x y H3
def mz (hk:HeapKind P w κ) (IK:Hp->κ->V->Prop) (td ty tv:TE):TS:=fun D σ H=>tv σ H fun v H1=>td σ H1 fun x H2=>ty σ H2 fun y H3=>sGPut_ hk IK D σ v x y H3
def tO (hk:HeapKind P w κ) (IK:Hp->κ->V->Prop):TE:=fun _ H Q=>∀p H',H p=none->DG hk IK H' p []->(∀b,b≠p->H' b=H b)->Q (.ref p) H'
def tP (hk:HeapKind P w κ) (IK:Hp->κ->V->Prop) (tk tv:TE):TE:=fun σ H Q=>∀p H0,H p=none->DG hk IK H0 p []->(∀b,b≠p->H0 b=H b)->tk σ H0 fun x H1=>tv σ H1 fun y H2=>DG hk IK H2 p []/\∃ks,IK H2 ks x/\∀H3,DG hk IK H3 p [(ks,y)]->(∀b,b≠p->H3 b=H2 b)->Q (.ref p) H3
end
section
variable {X:Cx}{κ:Type} [DecidableEq κ] {hk:HeapKind X.prog X.w κ}{IK:Hp->κ->V->Prop}{o i e f value ek ev:O5}{pos Kv KB Kl:Pos}{td ty tv tx tk:TE}
theorem tQ [F:KOk hk IK] (hu:X.A.units+2<cLine) (ho:PE X o td) (hi:PE X i ty) (hs:gC i):PE X (.Subscript o i pos) (mx hk IK td ty):=by
 intro J' s σ H Q I h;refine lx PySem.F.slot_dict_getitem.lookup hs (thn (ho J' s σ H _ I h) fun u s1 ⟨x,H1,I1,rx,q1⟩=>thn (hi J' s1 σ H1 _ I1 q1) fun iv s2 ⟨y,H2,I2,ry,a,Kb,ks,v,ex,d,k,l,q2⟩=> ?_);subst ex;obtain rfl:u=Value.ref a:=rx;obtain⟨b,rfl,rfl⟩:=F.rf k ry;exact⟨(E5 I2 d).1,E1 hu I2 d k l fun w' s3 I3 LB=>⟨v,H2,I3,LB,q2⟩⟩
theorem tR [F:KOk hk IK] (hu:X.A.units+2<cLine) (hi:PE X i ty) (ho:PE X o td):PC X .NotIn i o (my hk IK ty td):=by
 intro J' s σ H Q I h;refine thn (hi J' s σ H _ I h) fun iv s1 ⟨y,H1,I1,ry,q1⟩=>thn (ho J' s1 σ H1 _ I1 q1) fun u s2 ⟨x,H2,I2,rx,a,Kb,ks,ex,d,k,q2⟩=> ?_;subst ex;obtain rfl:u=Value.ref a:=rx;obtain⟨b,rfl,rfl⟩:=F.rf k ry;exact E3 hu I2 d k fun s3 I3=>⟨.bl _,H2,I3,rfl,q2⟩
theorem tS [F:KOk hk IK] (hu:X.A.units+2<cLine) (ho:PE X o td) (hi:PE X i ty) (hv:PE X value tv) (hs:swapsWith value (some (.Subscript o i Kv)) pos.line X.env=pure false):
  PS X (.Assign [.Subscript o i Kv] value pos) (mz hk IK td ty tv):=by
 intro J' s σ H D I h;refine wpAny_Assign_Subscript (thn (hv J' s σ H _ I h) fun r s1 ⟨v,H1,I1,rv,q1⟩=>thn (ho J' s1 σ H1 _ I1 q1) fun u s2 ⟨x,H2,I2,rx,q2⟩=>thn (hi J' s2 σ H2 _ I2 q2) fun iv s3 ⟨y,H3,I3,ry,a,Kb,ks,ex,d,k,hl,q3⟩=> ?_) hs;subst ex;obtain rfl:u=Value.ref a:=rx;obtain⟨b,rfl,rfl⟩:=F.rf k ry;exact E4 hu I3 d k hl rv fun H4 s4 d4 k4 I4=>⟨σ,H4,I4,q3 H4 d4 k4⟩
def E6:PE X (.Dict [] [] pos) (tO hk IK):=fun J' s σ H Q I h=>
 wpAny_Dict_empty ⟨.ref s.heap.objs.size,_,I.laid (a:=s.heap.objs.size) (o:= .ext (gE hk [] s.heap.objs.size)) (t':=s.toks) (fun _ _ q=>A4 _ q) (AB _) (tN s.heap),rfl,h _ _ (I.hok.fresh (AB _)) (tM rfl I.big) (fun b hb=>ax hb)⟩
theorem E7 [F:KOk hk IK] (hu:X.A.units+2<cLine) (hek:PE X ek tk) (hv:PE X ev tv):PE X (.Dict [some ek] [ev] pos) (tP hk IK tk tv):=by
 intro J' s σ H Q I q;have hn:=I.hok.fresh (AB s.heap.objs.size);have I1:=I.laid (a:=s.heap.objs.size) (o:= .ext (gE hk [] s.heap.objs.size)) (h':=s.heap.push {cls:= .type "dict",data:= .dict #[]}) (t':=s.toks) (fun _ _ q=>A4 _ q) (AB _) (tN s.heap);rw[arm_eval_Dict,zip_pairTrees [some ek] [ev] X.env pos rfl rfl,dictDisplay_pairs (pairTrees [some ek] [ev] X.env pos) (by intro z;cases z) (show 1<17 by decide)];refine A0 (wpAny_standAt (A0 ?_));unfold subDict;refine A0 (wpAny_alloc ?_);refine A0 (Az ?_);rw[A8 (show(pairTrees [some ek] [ev] X.env pos).length<=15 from(by decide:1<=15))];refine A0 (pairTrees_cons_walk (thn (hek J' _ σ _ _ I1 (q _ _ hn (tM rfl I.big) (fun b hb=>ax hb))) fun u s1 ⟨x,H1,I2,rx,q1⟩=>thn (hv J' s1 σ H1 _ I2 q1) fun w2 s2 ⟨y,H2,I3,ry,d,ks,k,q2⟩=>pairTrees_nil_walk ?_));obtain⟨b,rfl,rfl⟩:=F.rf k rx;obtain⟨z,hd,xs,Kq,e,dd⟩:=gO I3.hok d;cases Kq;refine wpAny_holding (wpAny_bind ?_);rw[List.forIn_cons];dsimp only;refine A0 (A0 (wpAny_dictSet_heap (knd:=hk) (F.room1 (by lia)) (F.of I3.hok k) dd (fun h' Ng hs=>A3 ?_) (AQ _)));dsimp only;rw[List.forIn_nil];refine wpAny_pure (wpAny_pure (wpAny_pure (wpAny_pure ?_)));obtain⟨o,es,ep,hq,h2,h3,h4,_,h5⟩:=Ng;refine⟨.ref s.heap.objs.size,upd H2 s.heap.objs.size (.ext (gE hk (storedH [] ks b w2) s.heap.objs.size)),gz I3 d.mut hs ⟨o,hq⟩ (mw ⟨o,es,ep,hq,h2,h3,h4,h5⟩),rfl,q2 _ ⟨(by show 1<=sizeLine;decide),hd,_,(GT.put .nil ks k ry).keeps F fun c ys ec=> ?_,ak⟩ (fun c hc=>ax hc)⟩;rw[ax (d.ntup ec)];exact ec
end
def nK (ks:O4 (O4 Int)):D:= .t (ks.map tI)
section
variable {P:O0}{w:O2}{H:Hp}{h:O6}{a:OZ}
theorem tT:∀{ks:O4 Int}{us:O4 MR},au (ks.map V.int) us->ItemsAre (intKind P w) ks us
 |[],_,r=>by rw[List.map_nil] at r;cases r;exact .nil
 |k::ks,_,r=>by
  rw[AK] at r;cases r with
  |cons h t=>
   obtain⟨t',rfl⟩:=h;exact .cons (show Value.isInt k (.int k t')=true by simp[Value.isInt]) (tT t)
theorem tU {ks:O4 Int} (ok:HOk P w H h) (e:H a=some (.tup (ks.map V.int))):IsTupleKey (intKind P w) h ks a:=by
 obtain⟨_,Kd,r,o,h1,h2,n,h3⟩:=(show aI P w H h a (.tup (ks.map V.int)) from ok a _ e);exact⟨o,Kd.toArray,n,h1,h2,h3,by simpa using tT r⟩
theorem tV (ok:HOk P w H h):∀{ks:O4 (O4 Int)}{vs:O4 V}{us:O4 MR},Iss H (ks.map tI) vs->au vs us->ItemsT (intKind P w) h ks us
 |[],_,_,i,r=>by rw[bp i] at r;cases r;exact .nil
 |k::ks,_,_,i,r=>by
  obtain⟨u,us,rfl,q,i2⟩:=aQ i;obtain⟨b,rfl,hb⟩:=bM q;cases r with
  |cons h t=>
   cases h;exact .cons (tU ok hb) (tV ok i2 t)
theorem E8 {ks:O4 (O4 Int)} (ok:HOk P w H h) (e:Is H (nK ks) (.ref a)):(tL (intKind P w)).is h ks a:=by
 obtain⟨b,vs,eb,hb,hi⟩:=bH e;cases eb;obtain⟨_,Kd,r,o,h1,h2,n,h3⟩:=(show aI P w H h a (.tup vs) from ok a _ hb);exact⟨o,Kd.toArray,n,h1,h2,h3,by simpa using tV ok hi r⟩
theorem E9 {H':Hp} (ht:∀b ys,H b=some (.tup ys)->H' b=some (.tup ys)) {ks:O4 (O4 Int)}{v:V} (h:Is H (nK ks) v):Is H' (nK ks) v:=by
 obtain⟨b,vs,rfl,hb,hi⟩:=bH h;have go:∀{xs:O4 (O4 Int)}{vs:O4 V},Iss H (xs.map tI) vs->Iss H' (xs.map tI) vs:=by
  intro xs;induction xs with
  |nil=>intro vs h;rw[bp h];exact ap
  |cons x xs ih=>
   intro vs h;obtain⟨u,us,rfl,q,r⟩:=aQ h;obtain⟨c,rfl,hc⟩:=bM q;exact am (eS (ht _ _ hc)) (ih r)
 exact bw (ht _ _ hb) (go hi)
abbrev hkN (P:O0) (w:O2):=tL (intKind P w)
instance nOk:KOk (hkN P w) (fun H ks v=>Is H (nK ks) v):=⟨E8,fun h=>let ⟨b,_,e,_⟩:=bH h;⟨b,e⟩,fun ht _ _=>E9 ht,fun h=>h⟩
abbrev DN (P:O0) (w:O2):Hp->OZ->O4 (O4 (O4 Int)×V)->Prop:=DG (hkN P w) (fun H ks v=>Is H (nK ks) v)
def J2 {Kb:O4 (O4 (O4 Int)×V)} (ok:HOk P w H h) (e:DN P w H a Kb):Kb.length<=sizeLine/\(a==sysModules)=false/\∃xs,GT (fun H ks v=>Is H (nK ks) v) H Kb xs/\H a=some (.ext (gE (hkN P w) xs a))/\h.DictOfH (hkN P w) a xs:=gO ok e
end
abbrev Fa (P:O0) (w:O2):TE->TE->TE:=mx (hkN P w) (fun H ks v=>Is H (nK ks) v)
abbrev Fc (P:O0) (w:O2):TE->TE->TE:=my (hkN P w) (fun H ks v=>Is H (nK ks) v)
abbrev Fd (P:O0) (w:O2):TE->TE->TE->TS:=mz (hkN P w) (fun H ks v=>Is H (nK ks) v)
abbrev Fe (P:O0) (w:O2):TE->TE->TE:=tP (hkN P w) (fun H ks v=>Is H (nK ks) v)
section
variable {X:Cx}{o i e f value ek ev:O5}{pos Kv KB Kl:Pos}{td ty tv tx tk:TE}
def Ff (hu:X.A.units+2<cLine) (ho:PE X o td) (hi:PE X i ty) (hs:gC i):PE X (.Subscript o i pos) (Fa X.prog X.w td ty):=tQ hu ho hi hs
def Fh (hu:X.A.units+2<cLine) (hi:PE X i ty) (ho:PE X o td):PC X .NotIn i o (Fc X.prog X.w ty td):=tR hu hi ho
def Fi (hu:X.A.units+2<cLine) (ho:PE X o td) (hi:PE X i ty) (hv:PE X value tv) (hs:swapsWith value (some (.Subscript o i Kv)) pos.line X.env=pure false):
  PS X (.Assign [.Subscript o i Kv] value pos) (Fd X.prog X.w td ty tv):=tS hu ho hi hv hs
def tW (hu:X.A.units+2<cLine) (hk:PE X ek tk) (hv:PE X ev tv):PE X (.Dict [some ek] [ev] pos) (Fe X.prog X.w tk tv):=E7 hu hk hv
end
end L2
namespace PySem.SeqAt
open AutoSeq1 (wpAny_loadPart')
open MeetsSeq MeetsSeq2 MeetsSeq3 SeqRoads2
end PySem.SeqAt
namespace L2
open PySem PySem.Spec PyProof.Rows
variable {H:Hp}{K:W.Frag}{K1:O4 O5}{P:O0}{Q:MR->OY->Prop}{X:Cx}{a acc b i1 i2 it l1 l2 z:OZ}{g:TG}{i k k1 own:Nat}{js:O4 Nat}{pos:Pos}{tb:TS}{te:TE}{vs ys:Array MR}{w:O2}{x:MR}{xs:O4 V}
variable {X:Cx}
open PySem.W
abbrev Mx (K:Type):=Sum K (O4 K)
variable {ks:O4 (Mx Int)}
def isL {K:Type}:Mx K->Bool
 | .inl _=>true
 | .inr _=>false
section
variable {prog:O0}{w:O2}{K:Type} [DecidableEq K] {knd:KeyKind prog w K}
inductive ItemsM (knd:KeyKind prog w K) (h:Heap):List (Mx K)->List Value->Prop
 |nil:ItemsM knd h [] []
 |val {k:K}{v:Value}{ks:List (Mx K)}{vs:List Value}:knd.is k v=true->ItemsM knd h ks vs->ItemsM knd h (.inl k::ks) (v::vs)
 |tup {k:List K}{a:Addr}{ks:List (Mx K)}{vs:List Value}:IsTupleKey knd h k a->ItemsM knd h ks vs->ItemsM knd h (.inr k::ks) (.ref a::vs)
def cH (knd:KeyKind prog w K) (sh:O4 Bool) (h:O6) (ks:O4 (Mx K)) (a:OZ):Prop:=ks.map isL=sh/\∃o items n,h.get? a=some o/\o.cls= .type "tuple"/\o.data= .seq items n/\ItemsM knd h ks items.toList
theorem ItemsM.inj {h:O6}{x y:O4 (Mx K)}{vs:O4 MR} (hx:ItemsM knd h x vs) (hy:ItemsM knd h y vs) (e:x.map isL=y.map isL):x=y:=by
 induction hx generalizing y with
 |nil=>cases hy;rfl
 |val h1 _ ih=>
  cases hy with
  |val h2 t2=>rw[knd.inj _ _ _ h1 h2,ih t2 (by simpa[isL] using e)]
  |tup h2 t2=>simp[isL] at e
 |tup h1 _ ih=>
  cases hy with
  |val h2 t2=>simp[isL] at e
  |tup h2 t2=>rw[h1.inj h2,ih t2 (by simpa[isL] using e)]
theorem ItemsM.keeps {h h':O6}{x:O4 (Mx K)}{vs:O4 MR}{d:OZ}{o:Obj}{es ep} (hx:ItemsM knd h x vs) (ho:h.get? d=some o) (hd:o.data= .dict es ep) (hs:Heap.SameBut d h h'):ItemsM knd h' x vs:=by
 induction hx with
 |nil=>exact .nil
 |val h1 _ ih=>exact .val h1 ih
 |tup h1 _ ih=>exact .tup (h1.keeps ho hd hs) ih
variable {sh:O4 Bool}
def cH.typeIs {s:OY}{ks:O4 (Mx K)}(x:cH knd sh s.heap ks a):s.TypeIs (.ref a) "tuple":=let ⟨_,o,_,_,ho,hc,_⟩:=x;⟨o,ho,hc⟩
theorem cH.inj {h:O6}{a:OZ}{x y:O4 (Mx K)} (hx:cH knd sh h x a) (hy:cH knd sh h y a):x=y:=by
 obtain⟨e1,o,items,n,ho,_,hd,hi⟩:=hx;obtain⟨e2,o',Oy,n',KJ,_,Ll,Lq⟩:=hy;obtain rfl:o=o':=Ao (ho.symm.trans KJ);rw[hd] at Ll;injection Ll with h1 _;subst h1;exact hi.inj Lq (e1.trans e2.symm)
theorem cH.keeps {h h':O6}{ks:O4 (Mx K)}{a d:OZ}{o:Obj}{es ep} (x:cH knd sh h ks a) (ho:h.get? d=some o) (hd:o.data= .dict es ep) (hs:Heap.SameBut d h h'):cH knd sh h' ks a:=by
 obtain⟨e,o',items,n,KJ,hc,Ll,hi⟩:=x;have Kt:a≠d:=by
  rintro rfl;obtain rfl:o'=o:=Ao (KJ.symm.trans ho);rw[hd] at Ll;exact nomatch Ll
 exact⟨e,o',items,n,(hs.2 a Kt).trans KJ,hc,Ll,hi.keeps ho hd hs⟩
def eu (knd:KeyKind prog w K):Mx K->Int
 | .inl k=>knd.hash k
 | .inr ks=>tupleKeyHash knd ks
def gP {K:Type}:Mx K->Nat
 | .inl _=>1
 | .inr ks=>ks.length+1
def mB (knd:KeyKind prog w K) (ks:O4 (Mx K)):Int:=reduceHash (Builtin.Tuple.tupleHashOf (ks.map (eu knd)))
def mC (ks:O4 (Mx K)):Nat:=(ks.map gP).sum+1
variable {A:O3}{E:MR->OY->Prop}{s:OY}
theorem Fj {ks:O4 (Mx K)}{Q:Int->OY->Prop} (hu:A.units+1<cLine) (hk:cH knd sh s.heap ks a) (h:Q (mB knd ks) {s with toks:=s.toks+mC ks}):
  wpAny (model prog w) A (pyHash (.ref a)) Q E s:=by
 have hT:=hk.typeIs;obtain⟨_,o,items,n,ho,_,hd,hi⟩:=hk;unfold pyHash;first|unfold pyHashByItsType|skip
 first|refine A0 (wpAny_cRoomFor_or (.inr (by lia)) ?_)|skip
 refine A0 (Bv hT Bs.lookup ?_);show wpAny _ _ (if(some (Value.builtin "tuple.__hash__")==some Value.none)=true then _ else _) Q E s;rw[A6 (by rw[beq_builtin_none];exact AZ)];refine A0 (Bv hT Bs.lookup ?_);show wpAny _ _ (callSpecialIfBoundUnlessNone? (.ref a) "__hash__" _>>=_) Q E s;refine A0 (wpAny_callSpecialIfBoundUnlessNone?_slot hT Bs (Ai Bs hT F.entry_tuple_hash ?_ (F.args_tuple_hash_1 _)));show wpAny _ _ (Builtin.Tuple.tupleItemsOf (.ref a)>>=_) _ _ s;refine A0 (CW ho hd ?_);refine A0 ?_;rw[<-CA];refine Ba _
  (fun aJ (b:Array Int) s'=>∃done left,ks=done++left/\ItemsM knd s.heap left aJ/\b.toList=done.map (eu knd)/\s'={s with toks:=s.toks+(done.map gP).sum})
  _ ?_ ?_ _ _ ⟨[],ks,rfl,hi,rfl,rfl⟩
 .rintro x aJ b s' ⟨done,left,rfl,hl,hb,rfl⟩;cases hl with
  | @val k v1 ks' _ h1 Mo=>
   refine A0 (knd.pyHash h1 ?_);first
    |exact A3 ⟨done++[.inl k],ks',by simp,Mo,by simp[hb,eu],by simp[C7,gP]⟩
    |exact A0 (A3 (A3 ⟨done++[.inl k],ks',by simp,Mo,by simp[hb,eu],by simp[C7,gP]⟩))
  | @tup k a1 ks' _ h1 Mo=>
   refine A0 (wpAny_pyHash_tuple (knd:=knd) (ks:=k) (by first|exact hu|(rw[b9];lia)|(simp;lia)) h1 ?_);first
    |exact A3 ⟨done++[.inr k],ks',by simp,Mo,by simp[hb,eu],by simp[C7,gP]⟩
    |exact A0 (A3 (A3 ⟨done++[.inr k],ks',by simp,Mo,by simp[hb,eu],by simp[C7,gP]⟩))
 .rintro b s' ⟨done,left,rfl,hl,hb,rfl⟩;cases hl;rw[B5] at h;show wpAny _ _ (retInt (Builtin.Tuple.tupleHashOf b.toList)) _ _ _;rw[hb];refine wpAny_ret_mkInt ?_;show wpAny _ _ (if(decide (-(2:Int)^63<=Builtin.Tuple.tupleHashOf (done.map (eu knd)))&&decide (Builtin.Tuple.tupleHashOf (done.map (eu knd))<2^63))=true then _ else _) Q E _;unfold mB reduceHash mC at h;by_cases hr:(decide (-(2:Int)^63<=Builtin.Tuple.tupleHashOf (done.map (eu knd)))&&decide (Builtin.Tuple.tupleHashOf (done.map (eu knd))<2^63))=true
  .rw [A8 hr];rw[A8 hr] at h;exact A3 (by simpa[C7] using h)
  .rw [A6 hr];rw[A6 hr] at h;exact A0 (Bz (A3 (by simpa[C7] using h)))
theorem Fk {x y:O4 (Mx K)}{P:Fin->OY->Prop} (hu:A.units<cLine) (hx:cH knd sh s.heap x a) (hy:cH knd sh s.heap y b) (h:P (.done (.ret (.bool (decide (x=y))))) s):
  wpAny (model prog w) A (Builtin.«tuple.__eq__» ⟨[.ref a, .ref b],[]⟩) P E s:=by
 have hTb:=hy.typeIs;obtain⟨sx,oa,xs,na,hoa,_,Kp,hia⟩:=hx;obtain⟨sy,ob,ys,nb,NW,_,MK,Nx⟩:=hy;show wpAny _ _ (isInstance (.ref b) (.type "tuple")>>=_) _ _ s;refine A0 (Bo hTb Cc ?_);simp only[B8,AG,Am];refine A0 (CW hoa Kp ?_);refine A0 (CW NW MK ?_);refine A0 ?_;refine Ba _
  (fun aJ r s'=>r.1=none/\s'=s/\∃x' y' LR MW,aJ=List.zip LR MW/\ItemsM knd s.heap x' LR/\ItemsM knd s.heap y' MW/\decide (x'=y')=decide (x=y)/\x'.map isL=y'.map isL/\(LR.length==MW.length)=(xs.size==ys.size))
  _ ?_ ?_ _ _ ⟨rfl,rfl,x,y,xs.toList,ys.toList,rfl,hia,Nx,rfl,sx.trans sy.symm,by simp⟩
 .rintro⟨u,v⟩ aJ r s' ⟨hr,rfl,x',y',LR,MW,hz,Ku,Lk,Lc,Og,Ke⟩;cases Ku with
  |nil=>simp at hz
  | @val k1 v1 x'' xs'' h1 hx''=>
   cases Lk with
   |nil=>simp at hz
   |tup _ _=>simp[isL] at Og
   | @val k2 v2 Ni ys'' h2 Me=>
    simp only[DP,CF,D8] at hz;obtain⟨⟨rfl,rfl⟩,rfl⟩:=hz;refine A0 (knd.eqBool h1 h2 ?_);by_cases hk:k1=k2
    .subst hk;rw[Ag rfl];simp only[B8,AG,Am];refine A3 ⟨rfl,rfl,x'',Ni,xs'',ys'',rfl,hx'',Me, ?_,by simpa using Og,by simpa using Ke⟩;rw[<-Lc];by_cases N1:x''=Ni
     .simp [N1]
     .simp [N1]
    .rw [AX hk];simp only[Cb,C1];have hf:decide (x=y)=false:=by rw[<-Lc];simp[hk]
     rw[hf] at h;exact A0 (A3 (A3 (A3 h)))
  | @tup k1 a1 x'' xs'' h1 hx''=>
   cases Lk with
   |nil=>simp at hz
   |val _ _=>simp[isL] at Og
   | @tup k2 a2 Ni ys'' h2 Me=>
    simp only[DP,CF,D8] at hz;obtain⟨⟨rfl,rfl⟩,rfl⟩:=hz;refine A0 (wpAny_eqBool_tuple (knd:=knd) (x:=k1) (y:=k2) (by first|exact hu|(rw[b9];lia)|(simp;lia)) h1 h2 ?_);by_cases hk:k1=k2
    .subst hk;rw[Ag rfl];simp only[B8,AG,Am];refine A3 ⟨rfl,rfl,x'',Ni,xs'',ys'',rfl,hx'',Me, ?_,by simpa using Og,by simpa using Ke⟩;rw[<-Lc];by_cases N1:x''=Ni
     .simp [N1]
     .simp [N1]
    .rw [AX hk];simp only[Cb,C1];have hf:decide (x=y)=false:=by rw[<-Lc];simp[hk]
     rw[hf] at h;exact A0 (A3 (A3 (A3 h)))
 .rintro⟨r1,r2⟩ s' ⟨hr,rfl,x',y',LR,MW,hz,Ku,Lk,Lc,Og,Ke⟩;simp only at hr;subst hr;refine A3 ?_;have Oz:(xs.size==ys.size)=decide (x=y):=by
   rw[<-Lc,<-Ke];cases Ku with
   |nil=>
    cases Lk with
    |nil=>simp
    |val _ _=>simp
    |tup _ _=>simp
   |val _ _=>
    cases Lk with
    |nil=>simp
    |val _ _=>simp at hz
    |tup _ _=>simp at hz
   |tup _ _=>
    cases Lk with
    |nil=>simp
    |val _ _=>simp at hz
    |tup _ _=>simp at hz
  show P (.done (.ret (.bool (xs.size==ys.size)))) s';rw[Oz];exact h
theorem Fm {x y:O4 (Mx K)}{Q:Bool->OY->Prop} (hu:A.units+1<cLine) (hx:cH knd sh s.heap x a) (hy:cH knd sh s.heap y b) (h:Q (decide (x=y)) s):
  wpAny (model prog w) A (eqBool (.ref a) (.ref b)) Q E s:=by
 unfold eqBool;try with_reducible refine Az ?_
 show wpAny _ _ (if(Value.ref a==Value.ref b)=true then _ else _) Q E s;by_cases ND:(Value.ref a==Value.ref b)=true
 .rw [A8 ND];have e:a=b:=by have:=eq_of_beq ND;injection this
  subst e;obtain rfl:=hx.inj hy;exact A0 (Bz (A3 (by simpa using h)))
 .rw [A6 ND];exact A0 (wpAny_richCompare_same_room (op:= .Eq) hx.typeIs hy.typeIs Ca
   (Ai Ca hx.typeIs F.entry_tuple_eq (Fk (by first|lia|(rw[b9];lia)|(simp;lia)) hx hy ⟨_,rfl,(fun e=>nomatch e),B9 h⟩) (F.args_tuple_eq_2 _ _)) (by lia))
theorem Fn {ks:O4 (Mx K)}{Q:Bool->OY->Prop} (hk:cH knd sh s.heap ks a) (h:Q true s):wpAny (model prog w) A (eqIsQuiet 8 (.ref a)) Q E s:=by
 have hT:=hk.typeIs;obtain⟨_,o,items,n,ho,_,hd,hi⟩:=hk;unfold eqIsQuiet;refine A0 (Bv hT Ca.lookup ?_);show wpAny _ _ (isInstance (.ref a) (.type "tuple")>>=_) _ _ s;refine A0 (Bo hT Cc ?_);simp only[B8,AG,Am];refine A0 (Bi ho hd ?_);refine A0 ?_;show wpAny _ _ (forIn items _ _) _ _ s;rw[<-CA];refine Ba _ (fun aJ r s'=>r.1=none/\s'=s/\∃x,ItemsM knd s.heap x aJ) _ ?_ ?_ _ _ ⟨rfl,rfl,ks,hi⟩
 .rintro v aJ r s' ⟨hr,rfl,x,KE⟩;cases KE with
  |val h1 ht=>
   rw[eqIsQuiet_byValue _ (knd.byValue _ _ h1)];refine A0 (A3 ?_);simp only[B8,AG,Am];exact A3 ⟨rfl,rfl,_,ht⟩
  |tup h1 ht=>
   refine A0 (tJ h1 ?_);simp only[B8,AG,Am];exact A3 ⟨rfl,rfl,_,ht⟩
 .rintro⟨r1,r2⟩ s' ⟨hr,rfl,_⟩;simp only at hr;subst hr;exact A3 h
end
def tX {prog:O0}{K:Type} [DecidableEq K] (knd:KeyKind prog w K) (sh:O4 Bool):HeapKind prog w (O4 (Mx K)) where
 is:=cH knd sh
 hash:=mB knd
 draws:=mC
 room:=fun A=>A.units+1<cLine
 inj:=fun hx hy=>hx.inj hy
 keeps:=fun x ho hd hs=>x.keeps ho hd hs
 pyHash:=fun hu hk h=>Fj hu hk h
 eqBool:=fun hu hx hy h=>Fm hu hx hy h
 quiet:=fun hk h=>Fn hk h
def mD:Mx Int->D
 | .inl i=> .i i
 | .inr t=>tI t
def qsh:O4 Bool:=[true,true,false,false]
def mK (ks:O4 (Mx Int)):D:= .t (ks.map mD)
def IsK (H:Hp) (ks:O4 (Mx Int)) (v:V):Prop:=ks.map isL=qsh/\Is H (mK ks) v
section
variable {P:O0}{w:O2}{H:Hp}{h:O6}{a:OZ}
theorem mE (ok:HOk P w H h):∀{ks:O4 (Mx Int)}{vs:O4 V}{us:O4 MR},Iss H (ks.map mD) vs->au vs us->ItemsM (intKind P w) h ks us
 |[],_,_,i,r=>by rw[bp i] at r;cases r;exact .nil
 | .inl k::ks,_,_,i,r=>by
  obtain⟨u,us,rfl,q,i2⟩:=aQ i;obtain rfl:=az q;cases r with
  |cons h t=>
   obtain⟨t',rfl⟩:=h;exact .val (show Value.isInt k (.int k t')=true by simp[Value.isInt]) (mE ok i2 t)
 | .inr k::ks,_,_,i,r=>by
  obtain⟨u,us,rfl,q,i2⟩:=aQ i;obtain⟨b,rfl,hb⟩:=bM q;cases r with
  |cons h t=>
   cases h;exact .tup (tU ok hb) (mE ok i2 t)
theorem Fo (ok:HOk P w H h) (e:IsK H ks (.ref a)):(tX (intKind P w) qsh).is h ks a:=by
 obtain⟨sh,e⟩:=e;obtain⟨b,vs,eb,hb,hi⟩:=bH e;cases eb;obtain⟨_,Kd,r,o,h1,h2,n,h3⟩:=(show aI P w H h a (.tup vs) from ok a _ hb);exact⟨sh,o,Kd.toArray,n,h1,h2,h3,by simpa using mE ok hi r⟩
theorem Fp {H':Hp} (ht:∀b ys,H b=some (.tup ys)->H' b=some (.tup ys)) {v:V} (h:IsK H ks v):IsK H' ks v:=by
 obtain⟨sh,h⟩:=h;obtain⟨b,vs,rfl,hb,hi⟩:=bH h;have go:∀{xs:O4 (Mx Int)}{vs:O4 V},Iss H (xs.map mD) vs->Iss H' (xs.map mD) vs:=by
  intro xs;induction xs with
  |nil=>intro vs h;rw[bp h];exact ap
  |cons x xs ih=>
   intro vs h;obtain⟨u,us,rfl,q,r⟩:=aQ h;cases x with
   |inl k=>rw[show u= .int k from az q];exact am bv (ih r)
   |inr k=>
    obtain⟨c,rfl,hc⟩:=bM q;exact am (eS (ht _ _ hc)) (ih r)
 exact⟨sh,bw (ht _ _ hb) (go hi)⟩
abbrev hkM (P:O0) (w:O2):=tX (intKind P w) qsh
instance mOk:KOk (hkM P w) IsK:=⟨Fo,fun h=>let ⟨b,_,e,_⟩:=bH h.2;⟨b,e⟩,fun ht _ _=>Fp ht,fun h=>h⟩
abbrev DM (P:O0) (w:O2):Hp->OZ->O4 (O4 (Mx Int)×V)->Prop:=DG (hkM P w) IsK
end
abbrev Fq (P:O0) (w:O2):TE->TE->TE:=mx (hkM P w) IsK
abbrev Fs (P:O0) (w:O2):TE->TE->TE:=my (hkM P w) IsK
abbrev Ft (P:O0) (w:O2):TE->TE->TE->TS:=mz (hkM P w) IsK
abbrev Fu (P:O0) (w:O2):TE:=tO (hkM P w) IsK
section
variable {X:Cx}{o i e f value ek ev:O5}{pos Kv KB Kl:Pos}{td ty tv tx tk:TE}
def Fv (hu:X.A.units+2<cLine) (ho:PE X o td) (hi:PE X i ty) (hs:gC i):PE X (.Subscript o i pos) (Fq X.prog X.w td ty):=tQ hu ho hi hs
def Fw (hu:X.A.units+2<cLine) (hi:PE X i ty) (ho:PE X o td):PC X .NotIn i o (Fs X.prog X.w ty td):=tR hu hi ho
def Fx (hu:X.A.units+2<cLine) (ho:PE X o td) (hi:PE X i ty) (hv:PE X value tv) (hs:swapsWith value (some (.Subscript o i Kv)) pos.line X.env=pure false):
  PS X (.Assign [.Subscript o i Kv] value pos) (Ft X.prog X.w td ty tv):=tS hu ho hi hv hs
def Fy:PE X (.Dict [] [] pos) (Fu X.prog X.w):=E6
end
section
variable {prog:O0}{w:O2}{A:O3}{E:MR->OY->Prop}{s:OY}
theorem mF {t:OZ}(Kj:s.heap.IsTupleIter it t i) (ht:s.heap.IsTuple t vs) (hx:vs[i]? =some x) (hQ:∀h',h'.IsTupleIter it t (i+1)->Heap.SameBut it s.heap h'->Q x {s with heap:=h'}):
  wpAny (model prog w) A (Builtin.SmallTypes.nextOf (.ref it)) Q E s:=by
 obtain⟨o,ho,hc,hd⟩:=id Kj;obtain⟨q,hq,_,nq,hdq⟩:=ht;unfold Builtin.SmallTypes.nextOf;refine A0 (B3 (name:=Str.ofString "__next__") Kj.typeIs Cf (Ai Cf Kj.typeIs F.entry_tuple_iterator_next ?_ (F.args_tuple_iterator_next_1 _)));show wpAny _ _ (field (.ref it) 0>>=_) _ _ s;refine A0 (Bg ho hd (x:= .ref t) rfl ?_);show wpAny _ _ (if(Value.ref t==Value.none)=true then _ else _) _ _ s;rw[A6 (show¬((Value.ref t==Value.none)=true) from AZ)];show wpAny _ _ (field (.ref it) 1>>=_) _ _ s;refine A0 (Bg ho hd (x:= .int i 0) rfl ?_);show wpAny _ _ (seqItems? (.ref t)>>=_) _ _ s;refine A0 (Bi hq hdq ?_);simp only[An,hx];refine A0 (CG ho hd (by simp) (A3 ⟨x,rfl,A3 (hQ _ ⟨_,CK _ ho (DH (C0 hd _)),(Obj.cls_mapFields ..).trans hc,by rw[C0 hd];simp[rawInt]⟩ (BD ..))⟩))
theorem tY {t:OZ}{Q:MR->OY->Prop} (hh:A.handled=none) (Kj:s.heap.IsTupleIter it t i) (ht:s.heap.IsTuple t vs) (hx:vs[i]? =none)
  (hE:∀h' e,Heap.ExtBut it s.heap h'->(∃o,h'.get? e=some o/\o.cls= .type "StopIteration")->E (.ref e) {s with heap:=h'}):wpAny (model prog w) A (Builtin.SmallTypes.nextOf (.ref it)) Q E s:=by
 obtain⟨o,ho,hc,hd⟩:=id Kj;obtain⟨q,hq,_,nq,hdq⟩:=ht;unfold Builtin.SmallTypes.nextOf;refine A0 (B3 (name:=Str.ofString "__next__") Kj.typeIs Cf (Ai Cf Kj.typeIs F.entry_tuple_iterator_next ?_ (F.args_tuple_iterator_next_1 _)));show wpAny _ _ (field (.ref it) 0>>=_) _ _ s;refine A0 (Bg ho hd (x:= .ref t) rfl ?_);show wpAny _ _ (if(Value.ref t==Value.none)=true then _ else _) _ _ s;rw[A6 (show¬((Value.ref t==Value.none)=true) from AZ)];show wpAny _ _ (field (.ref it) 1>>=_) _ _ s;refine A0 (Bg ho hd (x:= .int i 0) rfl ?_);show wpAny _ _ (seqItems? (.ref t)>>=_) _ _ s;refine A0 (Bi hq hdq ?_);simp only[An,hx];refine A0 (Bz (A0 (CG ho hd (by simp) ?_)));show wpAny _ _ (newExc (.type "StopIteration") []>>=_) _ _ _;refine A0 ?_;simp only[newExc,newTuple];refine A0 (Au ?_ (by size_fits));refine A0 (m:=firstArgMember _ _) (DL (a:=Value.none) (by first|rfl|(simp only[firstArgMember];rfl)) (Au ?_ (by size_fits)));simp -iota only[raiseNew];refine A0 (wpAny_handled ?_);(first|rw[show A.in1.handled=none from hh]|rw[hh]);exact A0 (A3 (wpAny_throw (hE _ _ (((BD ..).extBut.push _).push _) ⟨_,AI _ rfl,rfl⟩)))
theorem tZ (hh:A.handled=none) (it t:OZ) (Kt:t≠it) (vs:Array MR):Draws prog w A it [it,t] vs.size (fun i v=>vs[i]? =some v) (fun i h=>h.IsTupleIter it t i/\h.IsTuple t vs) where
 live:=fun _ _ st=>let ⟨⟨o,ho,_⟩,_⟩:=st;⟨o,ho⟩
 frame:=fun _ _ _ ⟨st1,Lo⟩ hk=>⟨st1.at fun o e=>hk it (by simp) o e,Lo.at fun o e=>hk t (by simp) o e⟩
 item:=fun i s Q E hi ⟨st1,Lo⟩ hQ=>mF st1 Lo (x:=vs[i]) (by simp[hi]) fun h' a b=>hQ _ h' s.toks (by simp[hi]) ⟨a,Lo.extBut b.extBut Kt⟩ b
 done:=fun s Q E ⟨st1,Lo⟩ hE=>tY hh st1 Lo (by simp) hE
theorem Fz {t:OZ}(hL:s.heap.IsTuple t vs)
  (h:∀h',IsEnum h' (s.heap.objs.size+1) s.heap.objs.size 0 .none->h'.IsTupleIter s.heap.objs.size t 0->h'.objs.size=s.heap.objs.size+2->(∀b o,s.heap.get? b=some o->h'.get? b=some o)->Q (.ref (s.heap.objs.size+1)) {s with heap:=h'}):
  wpAny (model prog w) A (call (.type "enumerate") [.ref t]) Q E s:=by
 have mt:Meets (Builtin.«enumerate.__new__» ⟨[.type "enumerate", .ref t],[]⟩) (fun _ R s=>s.heap.IsTuple t vs/\R (.ok (.ret (.ref (s.heap.push {cls:= .type "tuple_iterator",data:= .fields #[.ref t, .int 0 0]}).objs.size))) {s with heap:=(s.heap.push {cls:= .type "tuple_iterator",data:= .fields #[.ref t, .int 0 0]}).push {cls:= .type "enumerate",data:= .fields #[.none, .bool false, .ref s.heap.objs.size,rawInt 0, .none, .none]}}):=
  .of_wp fun prog w A R s h=>by
   obtain⟨hp,g,d,tk,os⟩:=s;obtain⟨hL,h⟩:=h;have Mu:=sub_enumerate;obtain⟨⟨c,dct,dt,sl⟩,hl,hc,n,hd⟩:=id hL;have hc:c= .type "tuple":=hc;have hd:dt= .seq vs n:=hd;subst hc hd
   wp_walk using AutoSeq1.wpAny_loadPart' hl
   refine wpAny_stack_any fun st=>A3 ?_;split
   .next c _ _ _ _ _=>cases (c==Value.type "enumerate")<;>(wp_walk using AutoSeq1.wpAny_loadPart' hl,D0 hL;exact⟨_,rfl,h⟩)
   .wp_walk using AutoSeq1.wpAny_loadPart' hl,D0 hL;exact⟨_,rfl,h⟩
 refine callType_new F.called_enumerate (by decide) (F.typeCall_enumerate_1 _) (F.newCall_enumerate_1 _) (fun obj=>F.args_object_init_2 obj _) F.entry_enumerate_new mt ⟨hL, ?_⟩;have hz:(s.heap.push {cls:= .type "tuple_iterator",data:= .fields #[.ref t, .int 0 0]}).objs.size=s.heap.objs.size+1:=B4 ..
 show _/\_;rw[hz];have he:=AI (s.heap.push {cls:= .type "tuple_iterator",data:= .fields #[.ref t, .int 0 0]}) (o:={cls:= .type "enumerate",data:= .fields #[.none, .bool false, .ref s.heap.objs.size,rawInt 0, .none, .none]}) rfl;rw[hz] at he;exact⟨⟨_,he,rfl⟩,h _ he ⟨_,A4 _ (AI _ rfl),rfl,rfl⟩ (by rw[B4,hz]) fun b o x=>A4 _ (A4 _ x)⟩
end
def fW (K:W.Frag) (a:OZ):It:=
 ⟨fun i H=>∃xs x,SqT K H a xs/\xs[i]? =some x,fun i H v H'=>∃x p,(∀xs,SqT K H a xs->xs[i]? =some x)/\v= .ref p/\H p=none/\H'=upd H p (.tup [.int i,x]),fun i H=>∃xs,SqT K H a xs/\xs.length=i⟩
theorem FA (a e it:OZ) (Kt:e≠it) (hai:a≠it) (hae:e≠a):
  Turn P w K (.Tuple K1 k pos) (fW K a) [e,it] e (fun i h=>(∃LM,IsEnum h e it (i:Nat) LM)/\h.IsTupleIter it a i) where
 mem:=by simp
 obj:=fun i h st b hb=>by
  obtain⟨⟨LM,h1⟩,o,h2,h3,h4⟩:=st;simp only[AJ,As,Bq] at hb;rcases hb with rfl|rfl
  .exact⟨_,h1,fun v y=>by cases y⟩
  .exact⟨o,h2,fun v y=>by rw[h4] at y;cases y⟩
 keep:=fun i h h' ⟨⟨LM,z⟩,Lo⟩ kk=>⟨⟨LM,kk e (by simp) _ z⟩,Lo.at fun o z=>kk it (by simp) o z⟩
 item:=by
  intro X hP hw hK hc i J' s σ H E I hf st hg;subst hP hw hK;obtain⟨xs,x,hq,hx⟩:=hg;obtain⟨Kd,rv,p,hz⟩:=I.tuple hq;obtain⟨u,hu,ru⟩:=rv.get hx;obtain⟨⟨LM,he⟩,Kj⟩:=st;have ltE:e<s.heap.objs.size:=AM he;have Kf:i<Kd.toArray.size:=by have:=(AD.mp hu).1;simpa using this
  refine wpAny_pyNext_enum_itemD (tZ (A:=X.A.in1) (show X.A.in1.handled=none from I.ok.hd hc) it a hai Kd.toArray) he ⟨Kj,p⟩ Kf Kt (by simp[Kt,hae]) fun x' h' tk px ho ⟨Ma,_⟩ hT hsz hk=>⟨.ref s.heap.objs.size,rfl, ?_⟩;obtain rfl:x'=u:=by
   have px:Kd.toArray[i]? =some x':=px;have:Kd[i]? =some x':=by simpa using px
   rw[hu] at this;exact(Ao this).symm
  refine wpAny_letOwnedTupleGo_enum ho fun h2 Nw sb=> ?_;have k2:∀b o,b∉[e,it]->s.heap.get? b=some o->h2.get? b=some o:=fun b o n z=>by
   simp only[AJ,As,Bq,not_or] at n;exact(sb.2 b n.1).trans (hk b o n.1 n.2 z)
  have Ol:h2.get? s.heap.objs.size=some {cls:= .type "tuple",data:= .seq #[.int i tk,x']}:=(sb.2 _ (Be ltE)).trans hT;refine⟨.ref s.heap.objs.size,upd H s.heap.objs.size (.tup [.int i,x]),I.turnNew (t':=tk+1) hf k2 ⟨by show 2<=sizeLine;decide,[.int i tk,x'], .cons ⟨_,rfl⟩ (.cons ru .nil),⟨_,Ol,rfl,_,rfl⟩⟩,rfl,⟨x,_,fun ys hy=>by rw[I.tuple_inj hy hq];exact hx,rfl,I.hok.fresh (AB _),rfl⟩,⟨⟨x',by simpa using Nw⟩,Ma.at fun o z=>(sb.2 it Kt.symm).trans z⟩,fun b hb=> ?_⟩;have there:∃o,s.heap.get? b=some o:=by
   simp only[AJ,As,Bq] at hb;rcases hb with rfl|rfl
   .exact⟨_,he⟩
   .exact Kj.imp fun o q=>q.1
  obtain⟨o,q⟩:=there;rw[ax (AT (AM q))];exact(hf b hb).1
 done:=by
  intro X hP hw hK hc i J' s σ H E I hf st hg;subst hP hw hK;obtain⟨xs,hq,hx⟩:=hg;obtain⟨Kd,rv,p,hz⟩:=I.tuple hq;obtain⟨⟨LM,he⟩,Kj⟩:=st;have hl:=rv.length;obtain⟨f0,f1,f2,f3,f4,f5⟩:=hf it (by simp);have hn:i=Kd.toArray.size:=by simp;lia
  exact wpAny_pyNext_enum_endD (tZ (A:=X.A.in1) (show X.A.in1.handled=none from I.ok.hd hc) it a hai Kd.toArray) he ⟨hn▸Kj,p⟩ fun h' eb=>⟨rfl,I.turned (t':=s.toks) (fun b o hb z=>eb b o hb z) f0 f1 f3 f4 f5⟩
 self:=fun _ _ _ _ _ st h=>let ⟨⟨_,z⟩,_⟩:=st;wpAny_pyIter_enum z h
section
variable {X:Cx}{K1:O4 O5}{k:Nat}{Ln p pos:Pos}{e:O5}{te:TE}
def FB (K:W.Frag) (tl:TE):TI:=fun σ H R=>tl σ H fun x H1=>∃a,x= .ref a/\(∃xs,SqT K H1 a xs)/\R (fW K a) H1
theorem mG (hg:Gl X "enumerate") (hm:X.mg "enumerate"=none) (hl:PE X e te) (he:starEach [e] X.env=[(false,eval e X.env)]:=by rfl):PI X (.Tuple K1 k Ln) (.Call (.Name "enumerate" p) [e] [] pos) (FB X.K te):=by
 intro J' s σ H R I h;refine Bn (dg I hg hm boot_enumerate ?_);refine BH (thn ((ab hl af he) _ J' s σ H (fun vs H1=>match vs with|[x]=>(∃a,x= .ref a/\(∃xs,SqT X.K H1 a xs)/\R (fW X.K a) H1)|_=>False) I h) fun us s1 ⟨vs,H1,I1,r1,q1⟩=> ?_) he (by rfl)
 match vs,q1,r1 with
 |[x],q1,r1=>
 obtain⟨a,rfl,⟨xs,hq⟩,q⟩:=q1;obtain⟨u,rfl,ru⟩:=cB r1;obtain rfl:u=Value.ref a:=ru;obtain⟨Kd,rv,pl,hz⟩:=I1.tuple hq;have la:a<s1.heap.objs.size:=let ⟨_,q,_⟩:=pl;AM q;refine Fz (show s1.heap.IsTuple a Kd.toArray from pl) fun h' hen Kj hsz hk=> ?_;refine wpAny_pyIter_enum hen ?_;refine⟨_,[_,_],_,_,H1,rfl,I1.kept (t':=s1.toks) hk,FA a _ _ (Be (BW _)) (AT la) (Be (Ak la)),⟨⟨_,by simpa using hen⟩,Kj⟩,fun b hb=> ?_,q⟩;have fr:∀b,s1.heap.objs.size<=b->cm X J' H1 b:=fun b z=>I1.fpOk z (I1.hok.fresh z);simp only[AJ,As,Bq] at hb;rcases hb with rfl|rfl<;>exact fr _ (by lia)
end
theorem ud {D:Ends}{σ:St}(Pv:Nat->St->Hp->Prop) (h0:Pv 0 σ H) (hl:∀i σ H,i<=xs.length->Pv i σ H->SqT K H a xs)
  (hs:∀i x σ H p,xs[i]? =some x->Pv i σ H->H p=none->g (.ref p) σ (upd H p (.tup [.int i,x])) fun σ2 H2=>tb (eLp D (Pv (i+1))) σ2 H2) (hd:∀σ H,Pv xs.length σ H->D.nx σ H):
  ∃Wq:Nat->Nat->St->Hp->Prop,(∃m,Wq 0 m σ H)/\∀i m σ H,Wq i m σ H->
   ((fW K a).stop i H/\D.nx σ H)\/((fW K a).go i H/\∃N:St->Hp->Prop,(∀σ' H',N σ' H'->∃m',m'<m/\Wq (i+1) m' σ' H')/\∀x H',(fW K a).yld i H x H'->g x σ H' fun σ2 H2=>tb (eLp D (N)) σ2 H2):=by
 refine⟨fun i m σ H=>m=xs.length-i/\i<=xs.length/\Pv i σ H,⟨xs.length,by simp,AQ _,h0⟩, ?_⟩;rintro i m σ H ⟨rfl,hi,p⟩;have q:=hl i σ H hi p;by_cases Kf:i<xs.length
 .refine .inr ⟨⟨xs,xs[i],q,by simp[Kf]⟩,Pv (i+1),fun σ' H' p'=>⟨xs.length-(i+1),by lia,rfl,Kf,p'⟩,fun x H' y=> ?_⟩;obtain⟨z,pp,e1,e2,e3,e4⟩:=y;subst e2 e4;exact hs i z σ H pp (e1 xs q) p e3
 .obtain rfl:i=xs.length:=by lia
  exact .inl ⟨⟨xs,q,rfl⟩,hd σ H p⟩
theorem FC {ti:TT}{σ:St}{H1:Hp}{Q:VK} (Pv:Nat->Hp->Prop) (h0:Pv 0 (upd H1 acc (.lst []))) (hl:∀i H2,i<=xs.length->Pv i H2->SqT K H2 a xs)
  (hs:∀i x H2 p,xs[i]? =some x->Pv i H2->H2 p=none->g (.ref p) (dj own js σ) (upd H2 p (.tup [.int i,x])) fun σ4 H4=>ti σ4 H4 fun b H5=>if b=true then te σ4 H5 fun y H6=>rAppend (.ref acc) [y] H6 fun _ H7=>Pv (i+1) H7 else Pv (i+1) H5) (hd:∀H2,Pv xs.length H2->Q (.ref acc) H2)
  (mono:∀σ H (R R':St->Hp->Prop) x,(∀σ' H',R σ' H'->R' σ' H')->g x σ H R->g x σ H R') (K8:∀σ H (R R':Bool->Hp->Prop),(∀b H',R b H'->R' b H')->ti σ H R->ti σ H R') (K9:∀σ H (R R':VK),(∀v H',R v H'->R' v H')->te σ H R->te σ H R'):
  iE (fW K a) own js g ti te σ H1 acc Q:=by
 refine⟨fun i m H2=>m=xs.length-i/\i<=xs.length/\Pv i H2,⟨xs.length,by simp,AQ _,h0⟩, ?_⟩;rintro i m H2 ⟨rfl,hi,p⟩;have qa:=hl i H2 hi p;by_cases Kf:i<xs.length
 .refine .inr ⟨⟨xs,xs[i],qa,by simp[Kf]⟩,fun v H3 z=> ?_⟩;obtain⟨x,pp,e1,e3,e4,e5⟩:=z;subst e3 e5;refine mono _ _ _ _ _ (fun σ4 H4 q=>K8 _ _ _ _ (fun b H5 q=> ?_) q) (hs i x _ pp (e1 xs qa) p e4);cases b with
  |true=>
   refine K9 _ _ _ _ (fun v H6 q=> ?_) q;obtain⟨l,zs,y,a1,a2,a3,a4,a5⟩:=q;exact⟨l,zs,y,a1,a2,a3,a4,_,by lia,rfl,Kf,a5⟩
  |false=>exact⟨_,by lia,rfl,Kf,q⟩
 .obtain rfl:i=xs.length:=by lia
  exact .inl ⟨⟨xs,qa,rfl⟩,hd H2 p⟩
theorem FD {ti:TT}{σ:St}{H1:Hp}{Q:VK} (Pv:Nat->Hp->Prop) (h0:Pv 0 (upd H1 acc (.lst []))) (hl:∀i H2,i<=xs.length->Pv i H2->SqL K H2 a xs)
  (hs:∀i x H2 p,xs[i]? =some x->Pv i H2->H2 p=none->g (.ref p) (dj own js σ) (upd H2 p (.tup [.int i,x])) fun σ4 H4=>ti σ4 H4 fun b H5=>if b=true then te σ4 H5 fun y H6=>rAppend (.ref acc) [y] H6 fun _ H7=>Pv (i+1) H7 else Pv (i+1) H5) (hd:∀H2,Pv xs.length H2->Q (.ref acc) H2)
  (mono:∀σ H (R R':St->Hp->Prop) x,(∀σ' H',R σ' H'->R' σ' H')->g x σ H R->g x σ H R') (K8:∀σ H (R R':Bool->Hp->Prop),(∀b H',R b H'->R' b H')->ti σ H R->ti σ H R') (K9:∀σ H (R R':VK),(∀v H',R v H'->R' v H')->te σ H R->te σ H R'):
  iE (Ite K a) own js g ti te σ H1 acc Q:=by
 refine⟨fun i m H2=>m=xs.length-i/\i<=xs.length/\Pv i H2,⟨xs.length,by simp,AQ _,h0⟩, ?_⟩;rintro i m H2 ⟨rfl,hi,p⟩;have qa:=hl i H2 hi p;by_cases Kf:i<xs.length
 .refine .inr ⟨⟨xs,xs[i],qa,by simp[Kf]⟩,fun v H3 z=> ?_⟩;obtain⟨x,pp,e1,e3,e4,e5⟩:=z;subst e3 e5;refine mono _ _ _ _ _ (fun σ4 H4 q=>K8 _ _ _ _ (fun b H5 q=> ?_) q) (hs i x _ pp (e1 xs qa) p e4);cases b with
  |true=>
   refine K9 _ _ _ _ (fun v H6 q=> ?_) q;obtain⟨l,zs,y,a1,a2,a3,a4,a5⟩:=q;exact⟨l,zs,y,a1,a2,a3,a4,_,by lia,rfl,Kf,a5⟩
  |false=>exact⟨_,by lia,rfl,Kf,q⟩
 .obtain rfl:i=xs.length:=by lia
  exact .inl ⟨⟨xs,qa,AB _⟩,hd H2 p⟩
theorem ue (hc:X.calm=true):bL X (.builtin "sum") (fun xs H Q=>∃(p:OZ) (ns:O4 Int),xs=[.ref p]/\SqT X.K H p (ns.map V.int)/\Q (.int ns.sum) H):=by
 intro J' s σ H xs us Q I r h;obtain⟨p,ns,rfl,hq,q⟩:=h;obtain⟨u,rfl,rx⟩:=cB r;cases rx;obtain⟨Kd,r',pl,hz⟩:=I.tuple hq;have hi:IntsAre Kd ns:=jA r';obtain⟨ys,e⟩:=hi.allInts.items;have hl:s.heap.IsTuple p Kd.toArray:=pl;rw[e] at hl;have n1:=hi.numsOf;rw[show Kd=Kd.toArray.toList from rfl,e,nums_intItems] at n1;have lt:p<s.heap.objs.size:=let ⟨_,q,_⟩:=hl;AM q;refine call_sum_walkG (D0 hl ?_);refine⟨_,_,_,_,_,_,numAt ys,rfl,Walks.tuple (A:=X.A.in1) (show X.A.in1.handled=none from I.ok.hd hc) _ p (AT lt) (intItems ys),⟨⟨_,AI _ rfl,rfl,rfl⟩,hl.push _⟩,fun b hb=> ?_,fun _ _=>intItems_at,fun h' tk t' hk=> ?_⟩
 .simp only[AJ,As,Bq] at hb;rw[B4];rcases hb with rfl|rfl
  .exact BW _
  .exact Ak lt
 .refine⟨.int ns.sum,H,I.kept fun b o z=>hk b o (fun y=> ?_) (A4 _ z),⟨t', ?_⟩,q⟩
  .simp only[AJ,As,Bq] at y;exact absurd (AM z) (by rw[y];exact C6 _)
  .rw [preSum_eq,Ct (by simp[intItems]),n1]
section
variable {prog:O0}{w:O2}{A:O3}{E:MR->OY->Prop}{s:OY}
theorem FE {TI TO:OZ}{k2:Nat}{xs:Array MR}{y a b:MR}{Q:O7 MR->OY->Prop} (D:ZipApart z TI TO i1 i2 l1 l2) (hz:IsZip s.heap z TI TO .none) (MX:IsPair s.heap TI (.ref i1) (.ref i2)) (NE:IsPair s.heap TO a b)
  (h1:s.heap.IsTupleIter i1 l1 k1) (h2:s.heap.IsTupleIter i2 l2 k2) (LD:s.heap.IsTuple l1 xs) (K0:s.heap.IsTuple l2 ys) (hx:xs[k1]? =some x) (hy:ys[k2]? =some y)
  (hQ:∀h',IsZip h' z TI TO (rawInt s.heap.objs.size)->IsPair h' TO x y->h'.IsTupleIter i1 l1 (k1+1)->h'.IsTupleIter i2 l2 (k2+1)->IsPair h' s.heap.objs.size x y->h'.objs.size=s.heap.objs.size+1->(∀c o,c≠z->c≠TO->c≠i1->c≠i2->s.heap.get? c=some o->h'.get? c=some o)->Q (some (.ref s.heap.objs.size)) {s with heap:=h'}):
  wpAny (model prog w) A (pyNext (.ref z)) Q E s:=by
 have hT:s.TypeIs (.ref z) "zip":=⟨_,hz,rfl⟩;unfold pyNext;refine A0 (CO (B3 (name:=Str.ofString "__next__") hT F.slot_zip_next (Ai F.slot_zip_next hT F.entry_zip_next ?_ (F.args_zip_next_1 _))));show wpAny _ _ (field (.ref z) 2>>=_) _ _ _;refine A0 (Bg hz rfl (x:= .bool false) rfl ?_);show wpAny _ _ (field (.ref z) 3>>=_) _ _ _;refine A0 (Bg hz rfl (x:= .ref TI) rfl (A0 (Bi MX rfl ?_)));show wpAny _ _ (Builtin.SmallTypes.ownedTupleIsFree (.ref z)>>=_) _ _ _;refine A0 ?_;unfold Builtin.SmallTypes.ownedTupleIsFree;refine A0 (Bg hz rfl (x:= .none) rfl (A3 ?_));simp only[C1];refine A0 (Bz (A0 (Bg hz rfl (x:= .ref TO) rfl (A0 (Cz hz (by simp) fun a1 OA s1=> ?_)))));have OA:IsZip a1 z TI TO .ellipsis:=OA;refine A0 ?_;simp only[List.zipIdx_cons,List.zipIdx_nil,Ci,List.forIn_nil];refine A0 (A0 (wpAny_onRaise ?_));show wpAny _ _ (Builtin.SmallTypes.nextOf (.ref i1)>>=_) _ _ _;refine A0 (mF (h1.extBut s1.extBut D.i1z) (LD.extBut s1.extBut D.l1z) hx fun a2 g1 s2=>A3 ?_);have o2:IsPair a2 TO a b:=s2.extBut _ _ D.TOi1 (s1.extBut _ _ D.TOz NE);refine A0 (Bi o2 rfl (A0 (wpAny_updateSeq_pair o2 fun a3 o3 s3=> ?_)));have o3:IsPair a3 TO x b:=o3;refine A0 (wpAny_letGo (A3 ?_));refine A0 (A0 (wpAny_onRaise ?_));show wpAny _ _ (Builtin.SmallTypes.nextOf (.ref i2)>>=_) _ _ _;refine A0 (mF (((h2.extBut s1.extBut D.i2z).extBut s2.extBut D.i12.symm).extBut s3.extBut D.TOi2.symm) (((K0.extBut s1.extBut D.l2z).extBut s2.extBut D.l2i1).extBut s3.extBut D.l2TO) hy fun a4 g2 s4=>A3 ?_);have o4:IsPair a4 TO x b:=s4.extBut _ _ D.TOi2 o3;refine A0 (Bi o4 rfl (A0 (wpAny_updateSeq_pair o4 fun a5 o5 s5=> ?_)));have o5:IsPair a5 TO x y:=o5;refine A0 (wpAny_letGo (A3 (A3 ?_)));refine A0 (Bi o5 rfl (A0 (wpAny_newTuple ?_)));have sz:a5.objs.size=s.heap.objs.size:=by rw[s5.1,s4.1,s3.1,s2.1,s1.1]
 have z5:IsZip a5 z TI TO .ellipsis:=s5.extBut _ _ D.TOz.symm (s4.extBut _ _ D.i2z.symm (s3.extBut _ _ D.TOz.symm (s2.extBut _ _ D.i1z.symm OA)));have k5:∀c o,c≠z->c≠TO->c≠i1->c≠i2->s.heap.get? c=some o->a5.get? c=some o:=fun c o c1 c2 c3 c4 e=>s5.extBut _ _ c2 (s4.extBut _ _ c4 (s3.extBut _ _ c2 (s2.extBut _ _ c3 (s1.extBut _ _ c1 e))));have m1:a5.IsTupleIter i1 l1 (k1+1):=((g1.extBut s3.extBut D.TOi1.symm).extBut s4.extBut D.i12).extBut s5.extBut D.TOi1.symm;have m2:a5.IsTupleIter i2 l2 (k2+1):=g2.extBut s5.extBut D.TOi2.symm;have zl:z<a5.objs.size:=AM z5;show wpAny _ _ (Builtin.SmallTypes.ownedTupleHandOut (.ref z) (.ref a5.objs.size)>>=_) _ _ _;refine A0 ?_;unfold Builtin.SmallTypes.ownedTupleHandOut;have z6:IsZip (a5.push {cls:= .type "tuple",data:= .seq #[x,y]}) z TI TO .ellipsis:=A4 _ z5;refine A0 (Cz z6 (by simp) fun a7 z7 s7=> ?_);have z7:IsZip a7 z TI TO (rawInt a5.objs.size):=z7;refine Cz z7 (by simp) fun a8 z8 s8=> ?_;have z8:IsZip a8 z TI TO (rawInt a5.objs.size):=z8;have up:∀c o,c≠z->a5.get? c=some o->a8.get? c=some o:=fun c o c1 e=>s8.extBut _ _ c1 (s7.extBut _ _ c1 (A4 _ e));have t8:IsPair a8 a5.objs.size x y:=s8.extBut _ _ (Be zl) (s7.extBut _ _ (Be zl) (AI _ rfl));have e8:a8.objs.size=a5.objs.size+1:=by rw[s8.1,s7.1,B4]
 rw[sz] at z8 t8 e8;refine A3 ⟨_,rfl,A3 ?_⟩;show Q (some (.ref a5.objs.size)) _;rw[sz];exact hQ a8 z8 (up _ _ D.TOz o5) (m1.at fun o e=>up _ o D.i1z e) (m2.at fun o e=>up _ o D.i2z e) t8 e8 fun c o c1 c2 c3 c4 e=>up c o c1 (k5 c o c1 c2 c3 c4 e)
theorem FF {TI TO:OZ}{xs:Array MR}{a b:MR}{Q:O7 MR->OY->Prop} (hh:A.handled=none) (D:ZipApart z TI TO i1 i2 l1 l2) (hz:IsZip s.heap z TI TO .none) (MX:IsPair s.heap TI (.ref i1) (.ref i2)) (NE:IsPair s.heap TO a b)
  (h1:s.heap.IsTupleIter i1 l1 k1) (LD:s.heap.IsTuple l1 xs) (hx:xs[k1]? =none) (hQ:∀h',(∀c o,c≠z->c≠TO->c≠i1->c≠i2->s.heap.get? c=some o->h'.get? c=some o)->Q none {s with heap:=h'}):wpAny (model prog w) A (pyNext (.ref z)) Q E s:=by
 have hT:s.TypeIs (.ref z) "zip":=⟨_,hz,rfl⟩;unfold pyNext;refine A0 (CO (B3 (name:=Str.ofString "__next__") hT F.slot_zip_next (Ai F.slot_zip_next hT F.entry_zip_next ?_ (F.args_zip_next_1 _))));show wpAny _ _ (field (.ref z) 2>>=_) _ _ _;refine A0 (Bg hz rfl (x:= .bool false) rfl ?_);show wpAny _ _ (field (.ref z) 3>>=_) _ _ _;refine A0 (Bg hz rfl (x:= .ref TI) rfl (A0 (Bi MX rfl ?_)));show wpAny _ _ (Builtin.SmallTypes.ownedTupleIsFree (.ref z)>>=_) _ _ _;refine A0 ?_;unfold Builtin.SmallTypes.ownedTupleIsFree;refine A0 (Bg hz rfl (x:= .none) rfl (A3 ?_));simp only[C1];refine A0 (Bz (A0 (Bg hz rfl (x:= .ref TO) rfl (A0 (Cz hz (by simp) fun a1 OA s1=> ?_)))));have OA:IsZip a1 z TI TO .ellipsis:=OA;refine A0 ?_;simp only[List.zipIdx_cons,List.zipIdx_nil,Ci,List.forIn_nil];refine A0 (A0 (wpAny_onRaise ?_));show wpAny _ _ (Builtin.SmallTypes.nextOf (.ref i1)>>=_) _ _ _;refine A0 (tY hh (h1.extBut s1.extBut D.i1z) (LD.extBut s1.extBut D.l1z) hx fun a2 e s2 he=> ?_);obtain⟨oe,hoe,hce⟩:=he;have z2:IsZip a2 z TI TO .ellipsis:=s2 _ _ D.i1z.symm OA;have ez:e≠z:=fun x=>by subst x;rw[z2] at hoe;cases hoe;simp at hce
 refine Cz z2 (by simp) fun a3 _ s3=> ?_;refine A0 (Bo (T:="StopIteration") (b:=true) ⟨oe,s3.extBut _ _ ez hoe,hce⟩ isSubtype_stop (A3 (hQ _ fun c o c1 _ c3 _ x=>s3.extBut _ _ c1 (s2 _ _ c3 (s1.extBut _ _ c1 x)))))
end
section
variable {prog:O0}{w:O2}{A:O3}{E:MR->OY->Prop}{s:OY}
abbrev tz1 (h:O6) (a:OZ):O6:=h.push {cls:= .type "tuple_iterator",data:= .fields #[.ref a, .int 0 0]}
abbrev tz2 (h:O6) (a b:OZ):O6:=(tz1 h a).push {cls:= .type "tuple_iterator",data:= .fields #[.ref b, .int 0 0]}
abbrev tz3 (h:O6) (a b:OZ):O6:=(tz2 h a b).push {cls:= .type "tuple",data:= .seq #[.ref h.objs.size, .ref (tz1 h a).objs.size]}
abbrev tz4 (h:O6) (a b:OZ):O6:=(tz3 h a b).push {cls:= .type "tuple",data:= .seq #[.none, .none]}
abbrev tz5 (h:O6) (a b:OZ):O6:=(tz4 h a b).push {cls:= .type "zip",data:= .fields #[.none, .bool false, .bool false, .ref (tz2 h a b).objs.size, .ref (tz3 h a b).objs.size]}
theorem FG {xs:Array MR}(ha:s.heap.IsTuple a xs) (hb:s.heap.IsTuple b ys)
  (h:∀h',IsZip h' (s.heap.objs.size+4) (s.heap.objs.size+2) (s.heap.objs.size+3) .none->IsPair h' (s.heap.objs.size+2) (.ref s.heap.objs.size) (.ref (s.heap.objs.size+1))->IsPair h' (s.heap.objs.size+3) .none .none->h'.IsTupleIter s.heap.objs.size a 0->h'.IsTupleIter (s.heap.objs.size+1) b 0->(∀c o,s.heap.get? c=some o->h'.get? c=some o)->Q (.ref (s.heap.objs.size+4)) {s with heap:=h'}):
  wpAny (model prog w) A (call (.type "zip") [.ref a, .ref b]) Q E s:=by
 have mt:Meets (Builtin.«zip.__new__» ⟨[.type "zip", .ref a, .ref b],[]⟩) (fun _ R s=>s.heap.IsTuple a xs/\s.heap.IsTuple b ys/\R (.ok (.ret (.ref (tz4 s.heap a b).objs.size))) {s with heap:=tz5 s.heap a b}):=
  .of_wp fun prog w A R s h=>by
   obtain⟨hp,g,d,tk,os⟩:=s;obtain⟨h1,h2,h⟩:=h;have Mu:=sub_zip;have hL1:Heap.IsTuple (Shared.heap ⟨hp,g,d,tk,os⟩) a xs:=h1;have hL2:Heap.IsTuple (Shared.heap ⟨hp.push {cls:= .type "tuple_iterator",data:= .fields #[.ref a, .int 0 0]},g,d,tk,os⟩) b ys:=Heap.IsTuple.push h2 _
   wp_walk using wpAny_pyIter_tuple hL1,D0 hL2
   exact⟨_,rfl,h⟩
 refine callType_new F.called_zip (by decide) (F.typeCall_zip_2 _ _) (F.newCall_zip_2 _ _) (fun obj=>F.args_object_init_3 obj _ _) F.entry_zip_new mt ⟨ha,hb, ?_⟩;have z1:(tz1 s.heap a).objs.size=s.heap.objs.size+1:=B4 ..
 have z2:(tz2 s.heap a b).objs.size=s.heap.objs.size+2:=by rw[B4,z1]
 have z3:(tz3 s.heap a b).objs.size=s.heap.objs.size+3:=by rw[B4,z2]
 have z4:(tz4 s.heap a b).objs.size=s.heap.objs.size+4:=by rw[B4,z3]
 have g5:(tz5 s.heap a b).get? (tz4 s.heap a b).objs.size=some _:=AI _ rfl;have g4:(tz5 s.heap a b).get? (tz3 s.heap a b).objs.size=some _:=A4 _ (AI _ rfl);have g3:(tz5 s.heap a b).get? (tz2 s.heap a b).objs.size=some _:=A4 _ (A4 _ (AI _ rfl));have g2:(tz5 s.heap a b).get? (tz1 s.heap a).objs.size=some _:=A4 _ (A4 _ (A4 _ (AI _ rfl)));have g1:(tz5 s.heap a b).get? s.heap.objs.size=some _:=A4 _ (A4 _ (A4 _ (A4 _ (AI _ rfl))));show _/\_;rw[z2,z3,z4] at g5;rw[z1,z2] at g3;rw[z3] at g4;rw[z1] at g2;rw[z4];exact⟨⟨_,g5,rfl⟩,h _ g5 g3 g4 ⟨_,g1,rfl,rfl⟩ ⟨_,g2,rfl,rfl⟩ fun c o x=>A4 _ (A4 _ (A4 _ (A4 _ (A4 _ x))))⟩
end
def ItzT (K : W.Frag) (a b : OZ) : It :=
  ⟨fun i H => ∃ xs x ys y, SqT K H a xs /\ SqT K H b ys /\ xs[i]? = some x /\ ys[i]? = some y,
   fun i H v H' => ∃ x y p, (∀ xs, SqT K H a xs -> xs[i]? = some x) /\ (∀ ys, SqT K H b ys -> ys[i]? = some y) /\ v = .ref p /\ H p = none /\ H' = upd H p (.tup [x, y]),
   fun i H => ∃ xs, SqT K H a xs /\ xs.length <= i⟩
theorem FH {TI TO:OZ} (D:ZipApart z TI TO i1 i2 a b):
  Turn P w K (.Tuple K1 k pos) (ItzT K a b) [z,TI,TO,i1,i2] z (fun i h=>IsZip h z TI TO .none/\IsPair h TI (.ref i1) (.ref i2)/\(∃x y,IsPair h TO x y)/\h.IsTupleIter i1 a i/\h.IsTupleIter i2 b i) where
 mem:=by simp
 obj:=fun i h st c hc=>by
  obtain⟨h1,h2,⟨x,y,h3⟩,⟨o4,h4,_,d4⟩,⟨o5,h5,_,d5⟩⟩:=st;simp only[AJ,As,Bq] at hc;rcases hc with rfl|rfl|rfl|rfl|rfl
  .exact⟨_,h1,fun v q=>by cases q⟩
  .exact⟨_,h2,fun v q=>by cases q⟩
  .exact⟨_,h3,fun v q=>by cases q⟩
  .exact⟨_,h4,fun v q=>by rw[d4] at q;cases q⟩
  .exact⟨_,h5,fun v q=>by rw[d5] at q;cases q⟩
 keep:=fun i h h' st kk=>⟨kk z (by simp) _ st.1,kk TI (by simp) _ st.2.1,st.2.2.1.imp fun x q=>q.imp fun y q=>kk TO (by simp) _ q,st.2.2.2.1.at fun o q=>kk i1 (by simp) o q,st.2.2.2.2.at fun o q=>kk i2 (by simp) o q⟩
 item:=by
  intro X hP hw hK hc i J' s σ H E I hf st hg;subst hP hw hK;obtain⟨xs,x,ys,y,hqa,hqb,hx,hy⟩:=hg;obtain⟨as,ra,pa,za⟩:=I.tuple hqa;obtain⟨bs,rb,pb,zb⟩:=I.tuple hqb;obtain⟨u,hu,ru⟩:=ra.get hx;obtain⟨v,hv,rv⟩:=rb.get hy;obtain⟨hz,MX,⟨_,_,NE⟩,h1,h2⟩:=st;have ltz:z<s.heap.objs.size:=AM hz;refine FE D hz MX NE h1 h2 (show s.heap.IsTuple a as.toArray from pa) (show s.heap.IsTuple b bs.toArray from pb) (x:=u) (y:=v) (by simpa using hu) (by simpa using hv) fun h' hz' hTO' h1' h2' hT hsz hk=>⟨.ref s.heap.objs.size,rfl, ?_⟩;refine wpAny_letOwnedTupleGo_zip hz' fun h3 hz3 sb=> ?_;have kk:∀c o,c∉[z,TI,TO,i1,i2]->s.heap.get? c=some o->h3.get? c=some o:=fun c o n e=>by
   simp only[AJ,As,Bq,not_or] at n;exact(sb.2 c n.1).trans (hk c o n.1 n.2.2.1 n.2.2.2.1 n.2.2.2.2 e)
  have hT3:h3.get? s.heap.objs.size=some {cls:= .type "tuple",data:= .seq #[u,v]}:=(sb.2 _ (Be ltz)).trans hT;have hTI3:IsPair h3 TI (.ref i1) (.ref i2):=(sb.2 _ D.TIz).trans (hk _ _ D.TIz D.TITO D.TIi1 D.TIi2 MX);refine⟨.ref s.heap.objs.size,upd H s.heap.objs.size (.tup [x,y]),I.turnNew (t':=s.toks) hf kk ⟨by show 2<=sizeLine;decide,[u,v], .cons ru (.cons rv .nil),⟨_,hT3,rfl,_,rfl⟩⟩,rfl,
   ⟨x,y,_,fun zs Lk=>by rw[I.tuple_inj Lk hqa];exact hx,fun zs Lk=>by rw[I.tuple_inj Lk hqb];exact hy,rfl,I.hok.fresh (AB _),rfl⟩,
   ⟨hz3,hTI3,⟨_,_,(sb.2 _ D.TOz).trans hTO'⟩,h1'.at fun o q=>(sb.2 _ D.i1z).trans q,h2'.at fun o q=>(sb.2 _ D.i2z).trans q⟩,fun c hc=> ?_⟩
  have there:∃o,s.heap.get? c=some o:=by
   simp only[AJ,As,Bq] at hc;rcases hc with rfl|rfl|rfl|rfl|rfl
   .exact⟨_,hz⟩
   .exact⟨_,MX⟩
   .exact⟨_,NE⟩
   .exact h1.imp fun o q=>q.1
   .exact h2.imp fun o q=>q.1
  obtain⟨o,q⟩:=there;rw[ax (AT (AM q))];exact(hf c hc).1
 done:=by
  intro X hP hw hK hc i J' s σ H E I hf st hg;subst hP hw hK;obtain⟨xs,hqa,hx⟩:=hg;obtain⟨as,ra,pa,za⟩:=I.tuple hqa;obtain⟨hz,MX,⟨_,_,NE⟩,h1,h2⟩:=st;have la:=ra.length;refine FF (I.ok.hd hc) D hz MX NE h1 (show s.heap.IsTuple a as.toArray from pa) (by simp;lia) fun h' hk=>⟨rfl,I.turnAll (t':=s.toks) hf fun c o n e=> ?_⟩;simp only[AJ,As,Bq,not_or] at n;exact hk c o n.1 n.2.2.1 n.2.2.2.1 n.2.2.2.2 e
 self:=fun _ _ _ _ _ st h=>wpAny_pyIter_zip st.1 h
section
variable {X:Cx}{K1:O4 O5}{k:Nat}{Ln p pos:Pos}{e f:O5}{te tf:TE}
inductive iZipT_ (K:W.Frag) (R:(It->Hp->Prop)) (vs:List V) (H1:Hp):Prop
 |mk a b:vs=[.ref a, .ref b]->((∃xs,SqT K H1 a xs))->((∃ys,SqT K H1 b ys))->R (ItzT K a b) H1->iZipT_ K R vs H1
def FI (K:W.Frag) (ta:TA):TI:=fun σ H R=>ta σ H fun vs H1=>iZipT_ K R vs H1
theorem FJ {ta:TA} (hg:Gl X "zip") (hm:X.mg "zip"=none) (hl:PA X [e,f] ta) (he:starEach [e,f] X.env=(false,eval e X.env)::starEach [f] X.env:=by rfl) (hp:(backTo pos (starEach [f] X.env)).any (·.1)=false:=by rfl):
  PI X (.Tuple K1 k Ln) (.Call (.Name "zip" p) [e,f] [] pos) (FI X.K ta):=by
 intro J' s σ H R I h;refine Bn (dg I hg hm PyProof.Rows.Boot.«zip» ?_);refine BH (thn (hl _ J' s σ H _ I h) fun us s1 ⟨vs,H1,I1,r1,a,b,ev,⟨xs,hqa⟩,⟨ys,hqb⟩,q⟩=> ?_) he hp;subst ev;obtain⟨u,v,rfl,ru,rv⟩:=lq r1;obtain rfl:u=Value.ref a:=ru;obtain rfl:v=Value.ref b:=rv;obtain⟨as,ra,pa,za⟩:=I1.tuple hqa;obtain⟨bs,rb,pb,zb⟩:=I1.tuple hqb;have la:a<s1.heap.objs.size:=let ⟨_,q,_⟩:=pa;AM q;have lb:b<s1.heap.objs.size:=let ⟨_,q,_⟩:=pb;AM q;refine FG (show s1.heap.IsTuple a as.toArray from pa) (show s1.heap.IsTuple b bs.toArray from pb) fun h' hz MX NE h1 h2 hk=> ?_;refine wpAny_pyIter_zip hz ?_;refine⟨_,[_,_,_,_,_],_,_,H1,rfl,I1.kept (t':=s1.toks) hk,FH (zipApart_new la lb),⟨hz,MX,⟨_,_,NE⟩,h1,h2⟩,fun c hc=> ?_,q⟩;have fr:∀c,s1.heap.objs.size<=c->cm X J' H1 c:=fun c z=>I1.fpOk z (I1.hok.fresh z);simp only[AJ,As,Bq] at hc;rcases hc with rfl|rfl|rfl|rfl|rfl<;>exact fr _ (by lia)
end
theorem FK {ys:O4 V}{D:Ends}{σ:St}(hn:xs.length=ys.length) (Pv:Nat->St->Hp->Prop) (h0:Pv 0 σ H) (hl:∀i σ H,i<=xs.length->Pv i σ H->SqT K H a xs/\SqT K H b ys)
  (hs:∀i x y σ H p,xs[i]? =some x->ys[i]? =some y->Pv i σ H->H p=none->g (.ref p) σ (upd H p (.tup [x,y])) fun σ2 H2=>tb (eLp D (Pv (i+1))) σ2 H2) (hd:∀σ H,Pv xs.length σ H->D.nx σ H):
  ∃Wq:Nat->Nat->St->Hp->Prop,(∃m,Wq 0 m σ H)/\∀i m σ H,Wq i m σ H->
   ((ItzT K a b).stop i H/\D.nx σ H)\/((ItzT K a b).go i H/\∃N:St->Hp->Prop,(∀σ' H',N σ' H'->∃m',m'<m/\Wq (i+1) m' σ' H')/\∀x H',(ItzT K a b).yld i H x H'->g x σ H' fun σ2 H2=>tb (eLp D (N)) σ2 H2):=by
 refine⟨fun i m σ H=>m=xs.length-i/\i<=xs.length/\Pv i σ H,⟨xs.length,by simp,AQ _,h0⟩, ?_⟩;rintro i m σ H ⟨rfl,hi,p⟩;obtain⟨qa,qb⟩:=hl i σ H hi p;by_cases Kf:i<xs.length
 .have ly:i<ys.length:=by lia
  refine .inr ⟨⟨xs,xs[i],ys,ys[i],qa,qb,by simp[Kf],by simp[ly]⟩,Pv (i+1),fun σ' H' p'=>⟨xs.length-(i+1),by lia,rfl,Kf,p'⟩,fun v H' z=> ?_⟩;obtain⟨x,y,pp,e1,e2,e3,e4,e5⟩:=z;subst e3 e5;exact hs i x y σ H pp (e1 xs qa) (e2 ys qb) p e4
 .obtain rfl:i=xs.length:=by lia
  exact .inl ⟨⟨xs,qa,AB _⟩,hd σ H p⟩
inductive tNotL_ (K:W.Frag) (Q:VK) (x:V) (H1:Hp):Prop
 |mk p xs:x= .ref p->SqL K H1 p xs->Q (.bl xs.isEmpty) H1->tNotL_ K Q x H1
def FL (K:W.Frag) (ta:TE):TE:=fun σ H Q=>ta σ H fun x H1=>tNotL_ K Q x H1
theorem FM {a:O5}{ta:TE}(ha:PE X a ta):PE X (.UnaryOp .Not a pos) (FL X.K ta):=by
 intro J' s σ H Q I h;refine UnaryOp_ (thn (ha J' s σ H _ I h) fun v s1 ⟨x,H1,I1,r1,q1⟩=> ?_);obtain⟨p,xs,rfl,hx,q⟩:=q1;cases r1;obtain⟨Kd,r,pl,hz⟩:=I1.list hx;have Ke:=r.length;have hn:=fL;exact not_of (wpAny_truthy_list pl.isList (by simp only[AE];lia) ⟨.bl xs.isEmpty,H1,I1.tok _,by rw[lm r,Bool.not_not];rfl,q⟩)
end L2
local macro_rules | `(tactic| ac_rfl) => `(tactic| (intro _ _ _ _ h; repeat (first | (cases h; subst_vars; rfl) | (obtain ⟨e, _⟩ := h; subst e; rfl) | (obtain ⟨_, h⟩ := h))))
namespace Mine
open PySem L2 PyProof.Rows
variable {H H' H'' H2:Hp}{K:W.Frag}{Kb:O4 (O4 (O4 Int)×V)}{L c d fi i j k m n p:Nat}{NF rs vs ws xs:O4 V}{P:O0}{R:O4 (O4 (O4 Int)×Int)}{Wq:O4 Pt->Int}{X:Cx}{a acc f:OZ}{b e ks ns row:O4 Int}{e0 ps qs r:O4 Pt}{fd:O1}{l:W.OpenLaw}{mg:Str->O7 MR}{o:HO}{sg sp:Int}{st:O8}{v:V}{w:O2}{x:O4 Int×Int}
def top (i:Nat):O8:=PySem.Challenge.pw_floorcurves_k90_whole_four_roads.main.body.getD i (.Pass ⟨0,0,0,0⟩)
abbrev mH:O8:=top 8
theorem FN:FnScope ["thing"] ["thing"] (al mH):=by and_intros
abbrev mI:O8:=top 9
theorem FO:FnScope ["thing","least","greatest"] ["thing","least","greatest"] (al mI):=by and_intros
abbrev mJ:O8:=top 10
theorem FP:FnScope ["d","k"] ["d","k"] (al mJ):=by and_intros
abbrev mL:O8:=top 11
theorem FQ:FnScope ["d","k"] ["d","k"] (al mL):=by and_intros
abbrev mM:O8:=top 12
theorem FR:FnScope ["d"] ["d"] (al mM):=by and_intros
abbrev mN:O8:=top 14
theorem jS:FnScope ["number","chosen","found","place"] ["number","chosen"] (al mN):=by and_intros
abbrev mO:O8:=top 16
theorem iR:FnScope ["d","drawing","ends","i","j","w"] ["d","drawing"] (al mO):=by and_intros
abbrev mP:O8:=top 17
theorem FS:FnScope ["d","drawing"] ["d","drawing"] (al mP):=by and_intros
abbrev mQ:O8:=top 18
theorem FT:FnScope ["lift"] ["lift"] (al mQ):=by and_intros
abbrev mR:O8:=top 19
theorem jT:FnScope ["d","floor","weight","spare","found","j","w"] ["d","floor","weight","spare"] (al mR):=by and_intros
abbrev mS:O8:=top 20
theorem iS:FnScope ["lifts","weight","spare","found","place","lift","rest"] ["lifts","weight","spare"] (al mS):=by and_intros
abbrev iT:O8:=top 21
theorem gQ:FnScope ["d","floor","drawing","spare","there","found","lifts","ends","left"] ["d","floor","drawing","spare"] (al iT):=by and_intros
abbrev jU:O8:=top 22
theorem fX:FnScope ["d","k","begun","floor","longer","drawing","spare"] ["d","k"] (al jU):=by and_intros
abbrev mT:O8:=top 23
theorem jV:FnScope ["drawing","product","lift"] ["drawing"] (al mT):=by and_intros
abbrev mU:O8:=top 26
theorem FU:FnScope ["numbers","place","more"] ["numbers","place","more"] (al mU):=by and_intros
abbrev mV:O8:=top 27
theorem jW:FnScope ["numbers","product","number"] ["numbers"] (al mV):=by and_intros
abbrev mW:O8:=top 29
theorem FV:FnScope ["d","drawing"] ["d","drawing"] (al mW):=by and_intros
abbrev mX:O8:=top 30
theorem jX:FnScope ["d","drawing","found","place","number"] ["d","drawing"] (al mX):=by and_intros
abbrev mY:O8:=top 31
theorem gR:FnScope ["numbers","first","last","alike","found","here","choices","fuller","others"] ["numbers","first","last","alike"] (al mY):=by and_intros
abbrev mZ:O8:=top 32
theorem fy:FnScope ["d","marks","known","mark","fuller","numbers","further","choices"] ["d","marks"] (al mZ):=by and_intros
abbrev m3:O8:=top 33
theorem FW:FnScope ["d","drawing"] ["d","drawing"] (al m3):=by and_intros
abbrev jY:O8:=top 34
theorem FX:FnScope ["d","k"] ["d","k"] (al jY):=by and_intros
abbrev m4:O8:=top 36
theorem uf:FnScope ["thing","number"] ["thing"] (al m4):=by and_intros
abbrev iU:O8:=top 37
theorem ug:FnScope ["row"] ["row"] (al iU):=by and_intros
abbrev m5:O8:=top 38
theorem FY:FnScope ["d","held","free"] ["d","held","free"] (al m5):=by and_intros
abbrev m6:O8:=top 40
theorem FZ:FnScope ["row","length"] ["row","length"] (al m6):=by and_intros
abbrev jZ:O8:=top 41
theorem gS:FnScope ["row","found","number","longer","begun"] ["row"] (al jZ):=by and_intros
abbrev m7:O8:=top 42
theorem j0:FnScope ["row","weight","first","missing","found","place"] ["row","weight","first"] (al m7):=by and_intros
abbrev m8:O8:=top 43
theorem iV:FnScope ["row","chosen","product","number","part"] ["row","chosen"] (al m8):=by and_intros
abbrev m9:O8:=top 44
theorem j4:FnScope ["row","fuller","found","place","number"] ["row","fuller"] (al m9):=by and_intros
abbrev ng:O8:=top 45
theorem iW:FnScope ["d","k","held","free","found","place","number","lesser"] ["d","k","held","free"] (al ng):=by and_intros
abbrev nh:O8:=top 46
theorem iX:FnScope ["d","k","held","free","found","kept","freed","lesser"] ["d","k","held","free"] (al nh):=by and_intros
abbrev ni:O8:=top 47
theorem iY:FnScope ["asked","d","k","held","free"] ["asked"] (al ni):=by and_intros
abbrev nj:O8:=top 48
theorem gT:FnScope ["asked","known","total","number","weights","lesser"] ["asked","known"] (al nj):=by and_intros
abbrev nu:O8:=top 50
theorem F':FnScope ["d","k","held","free"] ["d","k","held","free"] (al nu):=by and_intros
abbrev nv:O8:=top 51
theorem Ga:FnScope ["d","k","held","free"] ["d","k","held","free"] (al nv):=by and_intros
abbrev j5:O8:=top 53
theorem Gb:FnScope ["template"] ["template"] (al j5):=by and_intros
abbrev j6:O8:=top 54
theorem j7:FnScope ["k","found","i","j"] ["k"] (al j6):=by and_intros
abbrev ny:O8:=top 55
theorem iZ:FnScope ["lifts","k","found","place","lift","rest"] ["lifts","k"] (al ny):=by and_intros
abbrev j8:O8:=top 56
theorem Gc:FnScope ["number","lifts"] ["number","lifts"] (al j8):=by and_intros
abbrev j9:O8:=top 57
theorem uh:FnScope ["lifts","between"] ["lifts"] (al j9):=by and_intros
abbrev j':O8:=top 58
theorem Gd:FnScope ["k"] ["k"] (al j'):=by and_intros
abbrev kc:O8:=top 59
theorem Ge:FnScope ["template","j"] ["template","j"] (al kc):=by and_intros
abbrev ke:O8:=top 60
theorem Gf:FnScope ["template"] ["template"] (al ke):=by and_intros
abbrev kf:O8:=top 61
theorem nz:FnScope ["template","place","marks","j"] ["template","place"] (al kf):=by and_intros
abbrev kg:O8:=top 62
theorem nA:FnScope ["d","template","reached","heavy"] ["d","template"] (al kg):=by and_intros
abbrev nB:O8:=top 63
theorem gU:FnScope ["d","k","found","crossings","template","place","counts"] ["d","k"] (al nB):=by and_intros
abbrev nC:O8:=top 64
theorem fz:FnScope ["k","first","standing","known","key","total","crossings","place","behind","counts"] ["k","first","standing","known"] (al nC):=by and_intros
abbrev nD:O8:=top 66
theorem Gg:FnScope ["d","k"] ["d","k"] (al nD):=by and_intros
abbrev nE:O8:=top 67
theorem Gh:FnScope ["d","k"] ["d","k"] (al nE):=by and_intros
abbrev nF:O8:=top 69
theorem kh:FnScope ["d","found","x","y"] ["d"] (al nF):=by and_intros
abbrev nG:O8:=top 70
theorem Gi:FnScope ["d","point"] ["d","point"] (al nG):=by and_intros
abbrev nH:O8:=top 71
theorem Gj:FnScope ["a","b","c"] ["a","b","c"] (al nH):=by and_intros
abbrev ki:O8:=top 72
theorem Gk:FnScope ["d"] ["d"] (al ki):=by and_intros
abbrev i0:O8:=top 73
theorem ui:FnScope ["d","down"] ["d"] (al i0):=by and_intros
abbrev nI:O8:=top 77
theorem uj:FnScope ["way","side","place"] ["way","side"] (al nI):=by and_intros
abbrev nJ:O8:=top 78
theorem fY:FnScope ["d","way","side","place","a","b","c","found","facing"] ["d","way","side"] (al nJ):=by and_intros
abbrev nL:O8:=top 79
theorem Gm:FnScope ["piece"] ["piece"] (al nL):=by and_intros
abbrev kj:O8:=top 81
theorem uk:FnScope ["row","k","with_first"] ["row","k"] (al kj):=by and_intros
abbrev km:O8:=top 82
theorem um:FnScope ["d","k","row"] ["d","k"] (al km):=by and_intros
abbrev nM:O8:=top 83
theorem gW:FnScope ["d","way","side","known","key","total","piece","further"] ["d","way","side","known"] (al nM):=by and_intros
abbrev nN:O8:=top 85
theorem Gn:FnScope ["d"] ["d"] (al nN):=by and_intros
abbrev nO:O8:=top 86
theorem Go:FnScope ["d"] ["d"] (al nO):=by and_intros
abbrev nQ:O8:=top 87
theorem gX:FnScope ["d","k","over","under","total","way"] ["d","k"] (al nQ):=by and_intros
abbrev nR:O8:=top 89
theorem Gp:FnScope ["_law_script","_law_k"] ["_law_script","_law_k"] (al nR):=by and_intros
abbrev nS:O8:=top 90
theorem nT:FnScope ["_law_cell","_law_place","_law_far"] ["_law_cell","_law_place"] (al nS):=by and_intros
abbrev nU:O8:=top 91
theorem Gq:FnScope ["_law_bag_here"] ["_law_bag_here"] (al nU):=by and_intros
abbrev nV:O8:=top 92
theorem i6:FnScope ["_law_bag_here","_law_many","_law_found","_law_k"] ["_law_bag_here","_law_many"] (al nV):=by and_intros
abbrev nW:O8:=top 93
theorem fZ:FnScope ["_law_script","_law_bag_here","_law_d","_law_k","_law_way"] ["_law_script"] (al nW):=by and_intros
abbrev nX:O8:=top 94
theorem i7:FnScope ["_law_script","_law_d","_law_k","_law_told","_law_number"] ["_law_script"] (al nX):=by and_intros
set_option genInjectivity false
set_option genSizeOfSpec false
set_option genSizeOf false
structure Fg (K:W.Frag) (mg:Str->O7 MR) (n q:Str) (st:O8) (ps:O4 Str) (f:OZ) (d:O1):Prop where
 F:Fun K q q st f d
 B:gs K d ps []
 m:mg n=some (.ref f)
abbrev Fb (K:PySem.W.Frag) (mg:Str->O7 MR) (n:Str) (st:O8) (ps:O4 Str) (f:OZ) (d:O1) (q:Str:=n):Prop:=Fg K mg n q st ps f d
structure Fns (K:W.Frag) (mg:Str->O7 MR) where
 f0:Addr
 d0:FuncData
 f1:Addr
 d1:FuncData
 f2:Addr
 d2:FuncData
 f3:Addr
 d3:FuncData
 f4:Addr
 d4:FuncData
 f5:Addr
 d5:FuncData
 f6:Addr
 d6:FuncData
 f7:Addr
 d7:FuncData
 f8:Addr
 d8:FuncData
 f9:Addr
 d9:FuncData
 f10:Addr
 d10:FuncData
 f11:Addr
 d11:FuncData
 f12:Addr
 d12:FuncData
 f13:Addr
 d13:FuncData
 f14:Addr
 d14:FuncData
 f15:Addr
 d15:FuncData
 f16:Addr
 d16:FuncData
 f17:Addr
 d17:FuncData
 f18:Addr
 d18:FuncData
 f19:Addr
 d19:FuncData
 f20:Addr
 d20:FuncData
 f21:Addr
 d21:FuncData
 f22:Addr
 d22:FuncData
 f23:Addr
 d23:FuncData
 f24:Addr
 d24:FuncData
 f25:Addr
 d25:FuncData
 f26:Addr
 d26:FuncData
 f27:Addr
 d27:FuncData
 f28:Addr
 d28:FuncData
 f29:Addr
 d29:FuncData
 f30:Addr
 d30:FuncData
 f31:Addr
 d31:FuncData
 f32:Addr
 d32:FuncData
 f33:Addr
 d33:FuncData
 f34:Addr
 d34:FuncData
 f35:Addr
 d35:FuncData
 f36:Addr
 d36:FuncData
 f37:Addr
 d37:FuncData
 f38:Addr
 d38:FuncData
 f39:Addr
 d39:FuncData
 f40:Addr
 d40:FuncData
 f41:Addr
 d41:FuncData
 f42:Addr
 d42:FuncData
 f43:Addr
 d43:FuncData
 f44:Addr
 d44:FuncData
 f45:Addr
 d45:FuncData
 f46:Addr
 d46:FuncData
 f47:Addr
 d47:FuncData
 f48:Addr
 d48:FuncData
 f49:Addr
 d49:FuncData
 f50:Addr
 d50:FuncData
 f51:Addr
 d51:FuncData
 f52:Addr
 d52:FuncData
 f53:Addr
 d53:FuncData
 f54:Addr
 d54:FuncData
 f55:Addr
 d55:FuncData
 f56:Addr
 d56:FuncData
 f57:Addr
 d57:FuncData
 f58:Addr
 d58:FuncData
 f59:Addr
 d59:FuncData
 f60:Addr
 d60:FuncData
 f61:Addr
 d61:FuncData
 f62:Addr
 d62:FuncData
 f63:Addr
 d63:FuncData
 f64:Addr
 d64:FuncData
 f65:Addr
 d65:FuncData
 f66:Addr
 d66:FuncData
 f67:Addr
 d67:FuncData
 f68:Addr
 d68:FuncData
 f69:Addr
 d69:FuncData
 X0:Fb K mg "is_whole" mH ["thing"] f0 d0
 X1:Fb K mg "need_between" mI ["thing","least","greatest"] f1 d1
 X2:Fb K mg "need_narrow" mJ ["d","k"] f2 d2
 X3:Fb K mg "need_wide" mL ["d","k"] f3 d3
 X4:Fb K mg "need_degree" mM ["d"] f4 d4
 X5:Fb K mg "choose" mN ["number","chosen"] f5 d5
 X6:Fb K mg "ends_at" mO ["d","drawing"] f6 d6
 X7:Fb K mg "sound" mP ["d","drawing"] f7 d7
 X8:Fb K mg "lost" mQ ["lift"] f8 d8
 X9:Fb K mg "lifts_from" mR ["d","floor","weight","spare"] f9 d9
 X10:Fb K mg "leaving" mS ["lifts","weight","spare"] f10 d10
 X11:Fb K mg "with_floor" iT ["d","floor","drawing","spare"] f11 d11
 X12:Fb K mg "drawings" jU ["d","k"] f12 d12
 X13:Fb K mg "worth_floors" mT ["drawing"] f13 d13 "worth"
 X14:Fb K mg "with_more" mU ["numbers","place","more"] f14 d14
 X15:Fb K mg "product_of" mV ["numbers"] f15 d15
 X16:Fb K mg "need_sound" mW ["d","drawing"] f16 d16
 X17:Fb K mg "end_marks" mX ["d","drawing"] f17 d17
 X18:Fb K mg "put_between" mY ["numbers","first","last","alike"] f18 d18
 X19:Fb K mg "how_many_orders" mZ ["d","marks"] f19 d19
 X20:Fb K mg "how_many" m3 ["d","drawing"] f20 d20
 X21:Fb K mg "count_by_floors" jY ["d","k"] f21 d21
 X22:Fb K mg "is_row" m4 ["thing"] f22 d22
 X23:Fb K mg "row_weight" iU ["row"] f23 d23
 X24:Fb K mg "need_rows" m5 ["d","held","free"] f24 d24
 X25:Fb K mg "filled_up" m6 ["row","length"] f25 d25
 X26:Fb K mg "rows_within" jZ ["row"] f26 d26
 X27:Fb K mg "rows_beyond" m7 ["row","weight","first"] f27 d27
 X28:Fb K mg "choices" m8 ["row","chosen"] f28 d28
 X29:Fb K mg "weights_gained" m9 ["row","fuller"] f29 d29
 X30:Fb K mg "with_one_held" ng ["d","k","held","free"] f30 d30
 X31:Fb K mg "with_one_degree_fewer" nh ["d","k","held","free"] f31 d31
 X32:Fb K mg "summands" ni ["asked"] f32 d32
 X33:Fb K mg "counted_ends" nj ["asked","known"] f33 d33 "counted"
 X34:Fb K mg "asked_of" nu ["d","k","held","free"] f34 d34
 X35:Fb K mg "by_ends" nv ["d","k","held","free"] f35 d35
 X36:Fb K mg "length" j5 ["template"] f36 d36
 X37:Fb K mg "long_lifts" j6 ["k"] f37 d37
 X38:Fb K mg "losing" ny ["lifts","k"] f38 d38
 X39:Fb K mg "lies_within" j8 ["number","lifts"] f39 d39
 X40:Fb K mg "is_template" j9 ["lifts"] f40 d40
 X41:Fb K mg "templates" j' ["k"] f41 d41
 X42:Fb K mg "load" kc ["template","j"] f42 d42
 X43:Fb K mg "least_place" ke ["template"] f43 d43
 X44:Fb K mg "words_at" kf ["template","place"] f44 d44
 X45:Fb K mg "last_place" kg ["d","template"] f45 d45
 X46:Fb K mg "standings" nB ["d","k"] f46 d46
 X47:Fb K mg "counted_templates" nC ["k","first","standing","known"] f47 d47 "counted"
 X48:Fb K mg "count_of_rows" nD ["d","k"] f48 d48
 X49:Fb K mg "count_by_templates" nE ["d","k"] f49 d49
 X50:Fb K mg "points" nF ["d"] f50 d50
 X51:Fb K mg "is_point" nG ["d","point"] f51 d51
 X52:Fb K mg "corner" nH ["a","b","c"] f52 d52
 X53:Fb K mg "upper_edge" ki ["d"] f53 d53
 X54:Fb K mg "lower_edge" i0 ["d"] f54 d54
 X55:Fb K mg "first_turn" nI ["way","side"] f55 d55
 X56:Fb K mg "steps" nJ ["d","way","side"] f56 d56
 X57:Fb K mg "piece_worth" nL ["piece"] f57 d57
 X58:Fb K mg "leaving_out" kj ["row","k"] f58 d58
 X59:Fb K mg "ways" km ["d","k"] f59 d59
 X60:Fb K mg "worth_ways" nM ["d","way","side","known"] f60 d60 "worth"
 X61:Fb K mg "known_above" nN ["d"] f61 d61
 X62:Fb K mg "known_below" nO ["d"] f62 d62
 X63:Fb K mg "count_by_ways" nQ ["d","k"] f63 d63
 X64:Fb K mg "_law_cell_at" nR ["_law_script","_law_k"] f64 d64
 X65:Fb K mg "_law_bag" nS ["_law_cell","_law_place"] f65 d65
 X66:Fb K mg "_law_mixed" nU ["_law_bag_here"] f66 d66
 X67:Fb K mg "_law_digit" nV ["_law_bag_here","_law_many"] f67 d67
 X68:Fb K mg "_law_asked" nW ["_law_script"] f68 d68
 X69:Fb K mg "law" nX ["_law_script"] f69 d69
 n_isinstance:mg "isinstance"=none
 n_int:mg "int"=none
 n_bool:mg "bool"=none
 n_range:mg "range"=none
 n_min:mg "min"=none
 n_enumerate:mg "enumerate"=none
 n_sum:mg "sum"=none
 n_sorted:mg "sorted"=none
 n_tuple:mg "tuple"=none
 n_set:mg "set"=none
 n_list:mg "list"=none
 n_len:mg "len"=none
 n_zip:mg "zip"=none
 n_max:mg "max"=none
 n_any:mg "any"=none
 n_all:mg "all"=none
 n_abs:mg "abs"=none
 k_LEFT:Tok
 m_LEFT:mg "LEFT"=some (.int (1) k_LEFT)
 k_RIGHT:Tok
 m_RIGHT:mg "RIGHT"=some (.int (-1) k_RIGHT)
 a_NARROW:Addr
 m_NARROW:mg "NARROW"=some (.ref a_NARROW)
 D_NARROW:gH K a_NARROW [(1,6),(2,6),(3,6),(4,2)]=true
 a_WIDE:Addr
 m_WIDE:mg "WIDE"=some (.ref a_WIDE)
 D_WIDE:gH K a_WIDE [(1,6),(2,6),(3,6),(4,6),(5,3)]=true
 c_NoBound:Addr
 m_NoBound:mg "NoBound"=some (.ref c_NoBound)
 c_NoDrawing:Addr
 m_NoDrawing:mg "NoDrawing"=some (.ref c_NoDrawing)
 c_NoEnds:Addr
 m_NoEnds:mg "NoEnds"=some (.ref c_NoEnds)
 x_NoBound:W.excIn K c_NoBound bmV "ValueError.__new__"=true
 X_NoBound:XC K c_NoBound
 x_NoDrawing:W.excIn K c_NoDrawing bmV "ValueError.__new__"=true
 X_NoDrawing:XC K c_NoDrawing
 x_NoEnds:W.excIn K c_NoEnds bmV "ValueError.__new__"=true
 X_NoEnds:XC K c_NoEnds
theorem pcq {x q:Str}{ps:O4 Str}{sp:Sp}{e:O5}{es:O4 O5}{t:TA}{p pos:Pos} (F:FnOk X.prog X.w X.K X.mg X.base CX0 k f fd ps sp) (hr:Room n X.A) (B:Fg X.K X.mg x q st ps f fd) (ha:PA X (e::es) t) (hk:k<=n:=by decide) (hg:Gl X x:=by rfl) (MK:(x==("__debug__":Str))=false:=by decide) (he:starEach (e::es) X.env=(false,eval e X.env)::starEach es X.env:=by rfl) (L7:(backTo pos (starEach es X.env)).any (·.1)=false:=by rfl):PE X (.Call (.Name x p) (e::es) [] pos) (qy sp [] E0 t):=dS F (hr.mono hk) hg B.m B.F.kp B.B .nil dW ha MK he L7
theorem pSA {x:Str}{e:O5}{te:TE}{pos Kv:Pos} (hN:X.N.Nodup) (he:PE X e te) (hi:X.N[i]? =some x:=by rfl) (hx:Loc X.env.scope x:=by first|exact Or.inl rfl|exact Or.inr rfl) (hs:swapsWith e (some (.Name x Kv)) pos.line X.env=pure false:=by rfl) (hf:X.fn x=true\/X.env.scope.names.lookup x=some .local:=by first|exact .inl rfl|exact .inr rfl|assumption):PS X (.Assign [.Name x Kv] e pos) (ir te (bu i)):=xv hN hi hx he hs hf
theorem pGA {x:Str}{pos:Pos} (hN:X.N.Nodup) (hi:X.N[i]? =some x:=by rfl) (hx:Loc X.env.scope x:=by first|exact Or.inl rfl|exact Or.inr rfl) (hf:X.fn x=true\/X.env.scope.names.lookup x=some .local:=by first|exact .inl rfl|exact .inr rfl|assumption):PG X (.Name x pos) (bu i):=bm hN hi hx hf
def zB (h:Nat.ble n sizeLine=true):n<=sizeLine:=Nat.le_of_ble_eq_true h
theorem FbO {base:O6}{x q:Str}{N ps:O4 Str}{sp:Sp} (B:Fg K mg x q st ps f fd) (S:FnScope N ps (al st)) (LN:∀(Kz:MR) (A:O3) (outer:O4 Env) (s:OY) (H:Hp) (vs:O4 V) (Q:VK) (E:XK),Room k (A.deeper (envOfC q (al st) s.heap.objs.size f Kz))->sp vs H Q E->∃t,PSs (fM CX0 P w K mg base N q (al st) f Kz A outer s H E).nox (dB st) t/\t {nx:=fun _ H'=>Q .non H',rt:=Q} (start N vs) H) (len:∀vs H Q E,sp vs H Q E->vs.length=ps.length:=by ac_rfl):FnOk P w K mg base CX0 (k+1) f fd ps sp:=B.F.ok S len LN
abbrev OKQ {K:PySem.W.Frag}{mg:Str->O7 MR}{n q:Str}{st:O8}{ps:O4 Str}{f:OZ}{d:O1} (_:Fg K mg n q st ps f d) (P:O0) (w:O2) (base:O6) (k:Nat) (sp:Sp):Prop:=FnOk P w K mg base CX0 k f d ps sp
theorem bd {α:Type}{f:α->D}{L:O4 α}(h:Iss H (L.map f) vs) (hi:vs[i]? =some v):∃x,L[i]? =some x/\Is H (f x) v:=by
 have⟨d,hd,h⟩:=h.of_get hi;rw[AF] at hd;obtain⟨x,hx,rfl⟩:=AC.mp hd;exact⟨x,hx,h⟩
abbrev Lf:=Int×Int×Int
variable {ls:O4 Lf}
def cX (e:O4 Int) (p:Lf):O4 Int:=(e.set (p.1-1).toNat (e.getD (p.1-1).toNat 0-p.2.2)).set (p.2.1-1).toNat ((e.set (p.1-1).toNat (e.getD (p.1-1).toNat 0-p.2.2)).getD (p.2.1-1).toNat 0+p.2.2)
def bI (n:Nat) (ps:O4 Lf):O4 Int:=ps.foldl cX (List.replicate n 1)
def gd (ps:O4 Lf) (f:Int):Int:=((ps.filter fun p=>decide (p.2.1=f)).map (·.2.2)).sum
def ge (ps:O4 Lf) (f:Int):Int:=((ps.filter fun p=>decide (p.1=f)).map (·.2.2)).sum
def Okl (n:Nat) (p:Lf):Prop:=1<=p.1/\p.1<=n/\1<=p.2.1/\p.2.1<=n
theorem nY {l:O4 Int}{v:Int} (h:i<l.length):(l.set i v).getD j 0=if i=j then v else l.getD j 0:=by
 rw[List.getD,List.getElem?_set];by_cases e:i=j
 .subst e;rw[A8 rfl,A8 rfl,A8 h];rfl
 .rw [A6 e,A6 e];rfl
theorem Gr {p:Lf}:(cX e p).length=e.length:=by unfold cX;rw[BU,BU]
theorem Gs {p:Lf} (he:e.length=n) (hp:Okl n p) (i:Nat):(cX e p).getD i 0=e.getD i 0+(if p.2.1=1+(i:Int) then p.2.2 else 0)-(if p.1=1+(i:Int) then p.2.2 else 0):=by
 obtain⟨h1,h2,h3,h4⟩:=hp;unfold cX;have a1:(p.1-1).toNat<e.length:=by lia
 rw[nY (by rw[BU];lia),nY a1];by_cases c1:(p.2.1-1).toNat=i
 .have d1:p.2.1=1+(i:Int):=by lia
  rw[A8 c1,A8 d1,c1];by_cases c2:(p.1-1).toNat=i
  .have d2:p.1=1+(i:Int):=by lia
   rw[A8 c2,A8 d2,c2];lia
  .have d2:¬p.1=1+(i:Int):=by lia
   rw[A6 c2,A6 d2];lia
 .have d1:¬p.2.1=1+(i:Int):=by lia
  rw[A6 c1,A6 d1,nY a1];by_cases c2:(p.1-1).toNat=i
  .have d2:p.1=1+(i:Int):=by lia
   rw[A8 c2,A8 d2,c2];lia
  .have d2:¬p.1=1+(i:Int):=by lia
   rw[A6 c2,A6 d2];lia
theorem Gu (p:Lf) (ps:O4 Lf) (f:Int):gd (p::ps) f=(if p.2.1=f then p.2.2 else 0)+gd ps f:=by
 unfold gd;rw[D7];by_cases h:p.2.1=f<;>simp[h]
theorem Gv (p:Lf) (ps:O4 Lf) (f:Int):ge (p::ps) f=(if p.1=f then p.2.2 else 0)+ge ps f:=by
 unfold ge;rw[D7];by_cases h:p.1=f<;>simp[h]
theorem kr {n:Nat}:∀(ps:O4 Lf) (e:O4 Int),e.length=n->(∀p∈ps,Okl n p)->(ps.foldl cX e).length=n/\∀i:Nat,(ps.foldl cX e).getD i 0=e.getD i 0+gd ps (1+(i:Int))-ge ps (1+(i:Int))
 |[],e,he,_=>⟨he,fun i=>by simp[gd,ge]⟩
 |p::ps,e,he,h=>by
  rw[Cj];obtain⟨h1,h2⟩:=kr ps (cX e p) (by rw[Gr];exact he) fun q hq=>h q (by simp[hq]);refine⟨h1,fun i=> ?_⟩;rw[h2 i,Gs he (h p (by simp)) i,Gu,Gv];lia
theorem kt (n:Nat) (ps:O4 Lf) (h:∀p∈ps,Okl n p):(bI n ps).length=n:=(kr ps _ (by simp) h).1
def back (xs:O4 Int):Lf:=(xs.getD 0 0,xs.getD 1 0,xs.getD 2 0)
def bx (p:Lf):O4 Int:=[p.1,p.2.1,p.2.2]
def uo (p:Lf):back (bx p)=p:=rfl
theorem nZ (h:i<ks.length):(ks.map V.int)[i]? =some (.int (ks.getD i 0)):=by rw[AF,A2 h];simp[List.getD,h]
theorem map_set {l:O4 Int}{i:Nat}{v:Int}:(l.set i v).map V.int=(l.map V.int).set i (.int v):=by rw[List.map_set]
def lf (p:Lf):D:=tI (bx p)
def lfs (ps:O4 Lf):D:= .l (ps.map lf)
def eY {p:Lf}(h:Is H (lf p) v):∃a,v= .ref a/\H a=some (.tup [.int p.1, .int p.2.1, .int p.2.2]):=bM h
def eZ {p:Lf}(h:H a=some (.tup [.int p.1, .int p.2.1, .int p.2.2])):Is H (lf p) (.ref a):=eS (xs:=bx p) h
theorem uq (ps:O4 Lf):lfs ps= .l ((ps.map bx).map tI):=by unfold lfs;rw[BX];rfl
def ay (H H':Hp):Prop:=∀a xs,H a=some (.tup xs)->H' a=some (.tup xs)
def ay.of_same (s:ae H H'):ay H H':=fun a xs e=>s _ _ e
def ay.trans (s:ay H H') (t:ay H' H''):ay H H'':=fun a xs e=>t _ _ (s _ _ e)
theorem ay.upd {H:Hp}{b:OZ}{zs ys:O4 V} (hb:H b=some (.lst zs)):ay H (L2.upd H b (.lst ys)):=fun a xs e=>by
 rw[ax (by rintro rfl;rw[hb] at e;cases e)];exact e
theorem fb {H H':Hp} (t:ay H H'):∀{ps:O4 Lf}{vs:O4 V},Iss H (ps.map lf) vs->Iss H' (ps.map lf) vs
 |[],_,h=>by rw[bp h];exact ap
 |p::ps,_,h=>by
  obtain⟨u,us,rfl,h1,h2⟩:=aQ h;obtain⟨a,rfl,ha⟩:=eY h1;exact am (eZ (t _ _ ha)) (fb t h2)
def bz (p q:Lf):Bool:=if p.1=q.1 then(if p.2.1=q.2.1 then decide (p.2.2<q.2.2) else decide (p.2.1<q.2.1)) else decide (p.1<q.1)
def fc:O4 Lf->O4 Lf->Bool
 |_,[]=>false
 |[],_::_=>true
 |x::xs,y::ys=>if x=y then fc xs ys else bz x y
theorem ur {p q:Lf}{w:V} (h:Is H (lf p) v) (k:Is H (lf q) w):EqR K H 1 v w (decide (p=q)):=by
 have e:=h.eqr (K:=K) (n:=1) (by simp[lf,tI,bx,dep,dD]) (by simp[lf,tI,bx,Kin,dn]) k;have:eqD (lf p) (lf q)=decide (p=q):=by
  obtain⟨a,b,c⟩:=p;obtain⟨d,e,f⟩:=q;simp[lf,tI,bx,eqD,cN,Bool.and_assoc]
 rwa [this] at e
theorem Gw {p q:Lf}{w:V} (h:Is H (lf p) v) (k:Is H (lf q) w):LtR K H 1 v w (bz p q):=by
 obtain⟨a,rfl,ha⟩:=eY h;obtain⟨b,rfl,hb⟩:=eY k;have e:=LtR.tuples (K:=K) (H:=H) (d:=0) (a:=a) (b:=b) (fun j=>if j=0 then decide (p.1=q.1) else if j=1 then decide (p.2.1=q.2.1) else decide (p.2.2=q.2.2)) (fun j=>if j=0 then decide (p.1<q.1) else if j=1 then decide (p.2.1<q.2.1) else decide (p.2.2<q.2.2)) (SqT.of ha) (SqT.of hb) (fun j x y hx hy=> ?_) (fun j x y hx hy _=> ?_)
 .have e2:SeqAt.lex (fun j=>if j=0 then decide (p.1=q.1) else if j=1 then decide (p.2.1=q.2.1) else decide (p.2.2=q.2.2)) (fun j=>if j=0 then decide (p.1<q.1) else if j=1 then decide (p.2.1<q.2.1) else decide (p.2.2<q.2.2)) 3 3 3 0=bz p q:=by
   unfold bz;by_cases e0:p.1=q.1
   .by_cases e1:p.2.1=q.2.1
    .by_cases e2:p.2.2=q.2.2
     .simp [SeqAt.lex,e0,e1,e2]
     .simp [SeqAt.lex,e0,e1,e2]
    .simp [SeqAt.lex,e0,e1]
   .simp [SeqAt.lex,e0]
  exact e2▸e
 .match j,hx,hy with
  |0,hx,hy=>cases hx;cases hy;exact EqR.int 0 _ _
  |1,hx,hy=>cases hx;cases hy;exact EqR.int 0 _ _
  |2,hx,hy=>cases hx;cases hy;exact EqR.int 0 _ _
  |j+3,hx,_=>simp at hx
 .match j,hx,hy with
  |0,hx,hy=>cases hx;cases hy;exact LtR.int 0 _ _
  |1,hx,hy=>cases hx;cases hy;exact LtR.int 0 _ _
  |2,hx,hy=>cases hx;cases hy;exact LtR.int 0 _ _
  |j+3,hx,_=>simp at hx
theorem ut (p q:O4 Lf):∀(k i:Nat),min p.length q.length-i=k->i<=min p.length q.length->SeqAt.lex (fun j=>decide (p.getD j (0,0,0)=q.getD j (0,0,0))) (fun j=>bz (p.getD j (0,0,0)) (q.getD j (0,0,0))) p.length q.length k i=fc (p.drop i) (q.drop i)
 |0,i,hk,hi=>by
  rw[SeqAt.lex];rcases(by lia:q.length=i\/(p.length=i/\i<q.length)) with e|⟨e,e2⟩
  .rw [CQ (l:=q) (by lia)];have:¬p.length<q.length:=by lia
   cases p.drop i<;>simp[fc,this]
  .rw [CQ (l:=p) (by lia),Ar e2];have:p.length<q.length:=by lia
   simp[fc,this]
 |k+1,i,hk,hi=>by
  have h1:i<p.length:=by lia
  have h2:i<q.length:=by lia
  have g1:p.getD i (0,0,0)=p[i]:=by simp[List.getD,h1]
  have g2:q.getD i (0,0,0)=q[i]:=by simp[List.getD,h2]
  rw[SeqAt.lex,Ar h1,Ar h2,fc,g1,g2];by_cases e:p[i]=q[i]
  .rw [A8 (Ag e),A8 e];exact ut p q k (i+1) (by lia) (by lia)
  .rw [A6 (by simpa using e),A6 e]
theorem Gx {p q:O4 Lf}(h:Iss H (p.map lf) vs) (k:Iss H (q.map lf) ws):
  (∀(j:Nat) x y,vs[j]? =some x->ws[j]? =some y->EqR K H 1 x y (decide (p.getD j (0,0,0)=q.getD j (0,0,0))))/\(∀(j:Nat) x y,vs[j]? =some x->ws[j]? =some y->decide (p.getD j (0,0,0)=q.getD j (0,0,0))=false->LtR K H 1 x y (bz (p.getD j (0,0,0)) (q.getD j (0,0,0)))):=by
 have go:∀(j:Nat) x y,vs[j]? =some x->ws[j]? =some y->Is H (lf (p.getD j (0,0,0))) x/\Is H (lf (q.getD j (0,0,0))) y:=fun j x y hx hy=>by
  obtain⟨d,hd,h1⟩:=h.of_get hx;obtain⟨e,he,h2⟩:=k.of_get hy;rw[AF] at hd he;obtain⟨d',Ll,rfl⟩:=AC.mp hd;obtain⟨e',Ny,rfl⟩:=AC.mp he;rw[List.getD,Ll,List.getD,Ny];exact⟨h1,h2⟩
 exact⟨fun j x y hx hy=>ur (go j x y hx hy).1 (go j x y hx hy).2,fun j x y hx hy _=>Gw (go j x y hx hy).1 (go j x y hx hy).2⟩
theorem uu {p q:O4 Lf}{w:V} (h:Is H (lfs p) v) (k:Is H (lfs q) w):Ask K H v w (fc p q):=by
 obtain⟨a,vs,rfl,ha,h⟩:=aB h;obtain⟨b,ws,rfl,hb,k⟩:=aB k;obtain⟨e1,e2⟩:=Gx (K:=K) h k;refine⟨a,b,vs,ws,1,_,_,rfl,rfl,SqL.of ha,SqL.of hb,by decide,e1,e2, ?_⟩;rw[h.length,k.length,A1,A1,ut p q _ 0 (Nat.sub_zero _) (AQ _),DR,DR]
def nw (H0 H:Hp):Hp:=fun b=>match H0 b with|some (.lst _)=>none|_=>H b
theorem bE {H0:Hp}:ae (nw H0 H) H:=fun b o e=>by
 unfold nw at e;split at e
 .cases e
 .exact e
theorem eA {H0:Hp} (s:ae H H'):ae (nw H0 H) (nw H0 H'):=fun b o e=>by
 unfold nw at e⊢;split at e
 .cases e
 .exact s _ _ e
theorem kw {H0 H1:Hp} (s:ae H0 H1):ae (nw H1 H) (nw H0 H):=fun b o e=>by
 unfold nw at e⊢;split at e
 .cases e
 .rename_i h;split
  .rename_i xs h0;exact absurd (s _ _ h0) (h xs)
  .exact e
theorem i8 {H0 H1:Hp}(s:ae H0 H1) (ha:H1 a=some (.lst xs)):ae (nw H1 H) (hid (nw H0 H) a):=fun b o e=>by
 have hb:b≠a:=by
  rintro rfl;unfold nw at e;rw[ha] at e;cases e
 rw[dX hb];exact kw s b o e
theorem bV {H0:Hp}(h:H0 a=none):nw H0 H a=H a:=by unfold nw;rw[h]
theorem kx {H0:Hp}(s:ae H0 H) (h:H a=some (.tup xs)):nw H0 H a=some (.tup xs):=by
 unfold nw;split
 .rename_i ys e;rw[s _ _ e] at h;cases h
 .exact h
def Gy {H0:Hp}{ps:O4 Lf}(s:ae H0 H) (h:Iss H (ps.map lf) vs):Iss (nw H0 H) (ps.map lf) vs:=fb (fun a xs e=>kx s e) h
theorem og {H0:Hp}{ps:O4 Lf}(s:ae H0 H) (n:H0 a=none) (h:Is H (lfs ps) (.ref a)):Is (nw H0 H) (lfs ps) (.ref a):=by
 obtain⟨_,vs,e,ha,hi⟩:=aB h;cases e;exact aD (by rw[bV n];exact ha) (Gy s hi)
def Acc (H0 H:Hp) (a:OZ) (xs:O4 D):Prop:=∃vs,H a=some (.lst vs)/\Iss (hid (nw H0 H) a) xs vs
def Acc.start {H0:Hp}(h:H a=some (.lst [])):Acc H0 H a []:=⟨[],h,ap⟩
theorem Acc.mono {H0 H H':Hp}{a:OZ}{xs:O4 D} (s:ae H H') (g:Acc H0 H a xs):Acc H0 H' a xs:=let ⟨vs,e,h⟩:=g;⟨vs,s _ _ e,h.mono (dq (eA s))⟩
theorem uv {H0:Hp}:hid (nw H0 (upd H a o)) a=hid (nw H0 H) a:=by
 funext b
 unfold hid;split
 .rfl
 .rename_i h;unfold nw;rw[ax h]
theorem Acc.add {H0 H1:Hp}{xs:O4 D}{x:D}(s01:ae H0 H1) (Nj:ae H1 H2) (ha:H1 a=some (.lst vs)) (h:Iss (hid (nw H0 H1) a) xs vs) (k:Is (nw H1 H2) x v):Acc H0 (upd H2 a (.lst (vs++[v]))) a (xs++[x]):=
 ⟨vs++[v],ak,by rw[uv];exact(h.mono (dq (eA Nj))).append (am (k.mono (i8 s01 ha)) ap)⟩
theorem Acc.adds {H0 H1:Hp}{xs ys:O4 D}{us:O4 V} (s01:ae H0 H1) (Nj:ae H1 H2) (ha:H1 a=some (.lst vs)) (h:Iss (hid (nw H0 H1) a) xs vs) (k:Iss (nw H1 H2) ys us):Acc H0 (upd H2 a (.lst (vs++us))) a (xs++ys):=
 ⟨vs++us,ak,by rw[uv];exact(h.mono (dq (eA Nj))).append (k.mono (i8 s01 ha))⟩
theorem Acc.is {H0:Hp}{xs:O4 D} (n:H0 a=none) (g:Acc H0 H a xs):Is (nw H0 H) (.l xs) (.ref a):=let ⟨_,e,h⟩:=g;aD (by rw[bV n];exact e) (h.mono rm)
def aV (p:Lf):Int:=(p.2.1-p.1)*p.2.2-1
def eB (f j:Int) (n:Nat) (sp:Int):O4 Lf:=((List.range n).map fun w:Nat=>((f,j,1+(w:Int)):Lf)).filter fun p=>decide (aV p<=sp)
def cY (f:Int) (m n:Nat) (sp:Int):O4 Lf:=(List.range m).flatMap fun i:Nat=>eB f (f+1+(i:Int)) n sp
def cu:Nat->O4 Lf->Int->Int->O4 (O4 Lf)
 |0,_,_,_=>[[]]
 |n+1,ls,wt,sp=>[[]]++(List.range ls.length).flatMap fun i=>match ls[i]? with
  |none=>[]
  |some p=>if p.2.2<=wt/\aV p<=sp then(cu n (ls.drop i) (wt-p.2.2) (sp-aV p)).map (p:: ·) else []
def cZ (n:Nat) (ls:O4 Lf) (wt sp:Int) (i:Nat):O4 (O4 Lf):=match ls[i]? with
  |none=>[]
  |some p=>if p.2.2<=wt/\aV p<=sp then(cu n (ls.drop i) (wt-p.2.2) (sp-aV p)).map (p:: ·) else []
def oh (n:Nat) (ls:O4 Lf) (wt sp:Int):cu (n+1) ls wt sp=[[]]++(List.range ls.length).flatMap (cZ n ls wt sp):=rfl
def thF (d f:Nat) (ps:O4 Lf):Int:=(bI d ps).getD (f-1) 0
def fe (d f:Nat) (th sp:Int) (ls:O4 Lf):Int:=sp-(ls.map aV).sum-(th-(ls.map (·.2.2)).sum)*((d:Int)-(f:Int))
def gf (d f:Nat) (th sp:Int):O4 (O4 Lf):=cu 8 (cY f (d-f) th.toNat sp) th sp
def dG (d f:Nat) (ps:O4 Lf) (sp:Int):O4 (O4 Lf×Int):=((gf d f (thF d f ps) sp).filter fun ls=>decide (0<=fe d f (thF d f ps) sp ls)).map fun ls=>(ps++ls,fe d f (thF d f ps) sp ls)
def bO (d:Nat) (k:Int):Nat->O4 (O4 Lf×Int)
 |0=>[([],k)]
 |f+1=>(bO d k f).flatMap fun x=>dG d (f+1) x.1 x.2
def cP (d k:Nat):O4 (O4 Lf):=((bO d k d).filter fun x=>decide (x.2=0)).map (·.1)
def i9 (d:Nat) (p:Lf):Bool:=decide (1<=p.1)&&decide (p.1<p.2.1)&&decide (p.2.1<=d)&&decide (1<=p.2.2)&&decide (p.2.2<=8)
def stB (d f:Nat) (x:O4 Lf×Int):Bool:=x.1.all (i9 d)&&decide (x.1.length<=20)&&decide (0<=thF d (f+1) x.1)&&decide (thF d (f+1) x.1<8)&&decide (0<=x.2)&&decide (x.2<=6)&&decide ((gf d (f+1) (thF d (f+1) x.1) x.2).length<=200)
def okB (d k:Nat):Bool:=(List.range d).all (fun f=>(bO d k f).all (stB d f)&&decide ((bO d k (f+1)).length<=900))&&(bO d k d).all fun x=>decide (x.1.length<=20)
def Wide (d k:Nat):Prop:=1<=d/\((d<=4/\k<=6)\/(d=5/\k<=3))
theorem uw (f j:Int) (n:Nat) (sp:Int):eB f j (n+1) sp=eB f j n sp++(if aV (f,j,1+(n:Int))<=sp then [(f,j,1+(n:Int))] else []):=by
 unfold eB;rw[B0,A5,BG];by_cases h:aV (f,j,1+(n:Int))<=sp<;>simp[h]
theorem ux (f:Int) (m n:Nat) (sp:Int):cY f (m+1) n sp=cY f m n sp++eB f (f+1+(m:Int)) n sp:=by
 unfold cY;rw[B0,BF];simp
theorem uy (f j:Int) (n:Nat) (sp:Int):(eB f j n sp).length<=n:=by
 unfold eB;exact B7 (Br _ _) (by simp)
theorem oj (f:Int) (n:Nat) (sp:Int):∀m,(cY f m n sp).length<=m*n
 |0=>by simp[cY]
 |m+1=>by
  rw[ux,A',CH];have:=oj f n sp m;have:=uy f (f+1+(m:Int)) n sp;lia
theorem om {f:Int}{p:Lf} (h:p∈cY f m n sp):p.1=f/\f<p.2.1/\p.2.1<=f+m/\1<=p.2.2/\p.2.2<=n:=by
 unfold cY eB at h;simp only[BJ,AW,Ch,Af] at h;obtain⟨i,hi,⟨w,hw,rfl⟩,_⟩:=h;refine⟨rfl, ?_, ?_, ?_, ?_⟩
 .show f<f+1+(i:Int);lia
 .show f+1+(i:Int)<=f+m;lia
 .show 1<=1+(w:Int);lia
 .show 1+(w:Int)<=n;lia
theorem cQ {α:Type} (g:Nat->O4 α) (i:Nat):(List.range (i+1)).flatMap g=(List.range i).flatMap g++g i:=by
 rw[B0,BF];simp
theorem ja {α:Type} (g:Nat->O4 α):∀{m i:Nat},i<m->((List.range i).flatMap g).length+(g i).length<=((List.range m).flatMap g).length
 |0,i,h=>absurd h (by lia)
 |m+1,i,h=>by
  rw[cQ,A'];by_cases e:i=m
  .rw [e];exact AB _
  .have:=ja g (m:=m) (i:=i) (by lia);lia
theorem Gz {wt:Int}{x:O4 Lf} (h:x∈cu (n+1) ls wt sp):x=[]\/∃(i:Nat) (p:Lf) (r:O4 Lf),ls[i]? =some p/\p.2.2<=wt/\aV p<=sp/\r∈cu n (ls.drop i) (wt-p.2.2) (sp-aV p)/\x=p::r:=by
 rw[oh] at h;rcases BI.mp h with h|h
 .exact .inl (AY.mp h)
 .obtain⟨i,hi,h⟩:=BJ.mp h;unfold cZ at h;split at h
  .cases h
  .rename_i p hp;split at h
   .rename_i c;obtain⟨r,hr,rfl⟩:=Af.mp h;exact .inr ⟨i,p,r,hp,c.1,c.2,hr,rfl⟩
   .cases h
theorem on:∀{n:Nat}{ls:O4 Lf}{wt sp:Int}{x:O4 Lf},(∀p∈ls,1<=p.2.2)->0<=wt->x∈cu n ls wt sp->x.length<=n/\0<=(x.map (·.2.2)).sum/\(x.map (·.2.2)).sum<=wt/\∀p∈x,p∈ls
 |0,ls,wt,sp,x,_,h0,h=>by
  rw[cu] at h;rw[AY.mp h];exact⟨by simp,by simp,by simpa using h0,fun p hp=>nomatch hp⟩
 |n+1,ls,wt,sp,x,hw,h0,h=>by
  rcases Gz h with rfl|⟨i,p,r,hp,c1,c2,hr,rfl⟩
  .exact⟨by simp,by simp,by simpa using h0,fun p hp=>nomatch hp⟩
  .have pm:=AV hp;have p1:=hw p pm;obtain⟨a,b,c,d⟩:=on (fun q hq=>hw q (Bj hq)) (by lia) hr;refine⟨by rw[Ad];lia, ?_, ?_,fun q hq=> ?_⟩
   .rw [AK,Aj];lia
   .rw [AK,Aj];lia
   .rcases AJ.mp hq with rfl|hq
    .exact pm
    .exact Bj (d q hq)
theorem oq {p:Lf}:i9 d p=true↔1<=p.1/\p.1<p.2.1/\p.2.1<=d/\1<=p.2.2/\p.2.2<=8:=by
 unfold i9;simp only[A9,AU];constructor
 .rintro⟨⟨⟨⟨a,b⟩,c⟩,d⟩,e⟩;exact⟨a,b,c,d,e⟩
 .rintro⟨a,b,c,d,e⟩;exact⟨⟨⟨⟨a,b⟩,c⟩,d⟩,e⟩
theorem GA {f:Nat}{x:O4 Lf×Int} (h:stB d f x=true):(∀p∈x.1,i9 d p=true)/\x.1.length<=20/\0<=thF d (f+1) x.1/\thF d (f+1) x.1<8/\0<=x.2/\x.2<=6/\(gf d (f+1) (thF d (f+1) x.1) x.2).length<=200:=by
 unfold stB at h;simp only[A9,AU,AS] at h;obtain⟨⟨⟨⟨⟨⟨a,b⟩,c⟩,d⟩,e⟩,f⟩,g⟩:=h;exact⟨a,b,c,d,e,f,g⟩
theorem GB (h:okB d k=true):(∀f<d,(∀x∈bO d k f,stB d f x=true)/\(bO d k (f+1)).length<=900)/\∀x∈bO d k d,x.1.length<=20:=by
 unfold okB at h;simp only[A9,AU,AS,AW] at h;exact h
theorem GC (p q:Lf):ltI (bx p) (bx q)=bz p q:=by
 unfold bz ltI bx;simp only[cV,Ad,List.length_nil];split
 .split
  .split
   .rename_i h;simp[h]
   .rfl
  .rfl
 .rfl
def Srt (ps:O4 Lf):Prop:=ps.Pairwise fun a b=>bz b a=false
structure Snd (d:Nat) (ps:O4 Lf):Prop where
 ok:∀p∈ps,1<=p.1/\p.1<p.2.1/\p.2.1<=d/\1<=p.2.2
 nn:∀i:Nat,i<d->0<=1+gd ps (1+(i:Int))-ge ps (1+(i:Int))
 so:Srt ps
def eF (ps:O4 Lf) (i:Nat):Int:=1+gd ps (1+(i:Int))-ge ps (1+(i:Int))
theorem GD {ps:O4 Lf} (h:∀p∈ps,Okl d p) (hi:i<d):(bI d ps).getD i 0=eF ps i:=by
 have:=(kr ps (List.replicate d 1) (by simp) h).2 i;unfold bI;rw[this];unfold eF;have:(List.replicate d (1:Int)).getD i 0=1:=by simp[List.getD,hi]
 rw[this]
def gN (d:Nat) (ps:O4 Lf):Prop:=(∀p∈ps,1<=p.1/\p.1<p.2.1/\p.2.1<=d/\1<=p.2.2)/\∀i:Nat,i<d->0<=eF ps i
theorem gN.okl {ps:O4 Lf} (h:gN d ps):∀p∈ps,Okl d p:=fun p hp=>by
 obtain⟨a,b,c,_⟩:=h.1 p hp;exact⟨a,by lia,by lia,c⟩
def fA (x:Lf):O4 Lf->O4 Lf
 |[]=>[x]
 |y::ys=>if bz x y then x::y::ys else if x=y then y::ys else y::fA x ys
def c7 (xs:O4 Lf):O4 Lf:=xs.foldr fA []
def fB (d:Nat) (es:O4 Int) (i:Nat):O4 Lf:=List.replicate (es.getD i 0).toNat (1+(i:Int),(d:Int)+1,1)
def ff (d:Nat) (es:O4 Int):O4 Lf:=(List.range d).flatMap (fB d es)
theorem ot {p q:Lf}:bz p q=true↔p.1<q.1\/(p.1=q.1/\(p.2.1<q.2.1\/(p.2.1=q.2.1/\p.2.2<q.2.2))):=by
 unfold bz;by_cases e0:p.1=q.1
 .by_cases e1:p.2.1=q.2.1
  .simp [e0,e1]
  .simp [e0,e1]
 .simp [e0]
theorem ky {p:Lf}:¬bz p p=true:=by rw[ot];lia
theorem uz {p q r:Lf} (h:bz p q=true) (k:bz q r=true):bz p r=true:=by rw[ot] at*;lia
theorem uA {p q:Lf} (h:¬bz p q=true) (k:p≠q):bz q p=true:=by
 rw[ot] at*
 obtain⟨a,b,c⟩:=p;obtain⟨d,e,f⟩:=q;simp only[ne_eq,D8,not_and] at*
 lia
theorem ou {x z:Lf}:∀{ys:O4 Lf},z∈fA x ys↔z=x\/z∈ys
 |[]=>by simp[fA]
 |y::ys=>by
  unfold fA;split
  .simp
  .split
   .rename_i e;subst e;simp
   .simp [ou (ys:=ys)];constructor
    .rintro(h|h|h)
     .exact .inr (.inl h)
     .exact .inl h
     .exact .inr (.inr h)
    .rintro(h|h|h)
     .exact .inr (.inl h)
     .exact .inl h
     .exact .inr (.inr h)
theorem uB {x:Lf}:∀{ys:O4 Lf},(ys.Pairwise fun a b=>bz a b=true)->(fA x ys).Pairwise fun a b=>bz a b=true
 |[],_=>by simp[fA]
 |y::ys,h=>by
  unfold fA;split
  .rename_i e;refine List.Pairwise.cons (fun z hz=> ?_) h;rcases AJ.mp hz with rfl|hz
   .exact e
   .exact uz e ((Aq.mp h).1 z hz)
  .split
   .exact h
   .rename_i e1 e2;refine List.Pairwise.cons (fun z hz=> ?_) (uB (Aq.mp h).2);rcases ou.mp hz with rfl|hz
    .exact uA e1 e2
    .exact(Aq.mp h).1 z hz
theorem ow {z:Lf}:∀{xs:O4 Lf},z∈c7 xs↔z∈xs
 |[]=>by simp[c7]
 |x::xs=>by
  have:=ow (z:=z) (xs:=xs);unfold c7 at this⊢;rw[List.foldr_cons,ou,this,AJ]
theorem ox:∀(xs:O4 Lf),(c7 xs).Pairwise fun a b=>bz a b=true
 |[]=>by simp[c7]
 |x::xs=>by
  have:=ox xs;unfold c7 at this⊢;rw[List.foldr_cons];exact uB this
theorem uC:∀{xs ys:O4 Lf},(xs.Pairwise fun a b=>bz a b=true)->(ys.Pairwise fun a b=>bz a b=true)->(∀z,z∈xs↔z∈ys)->xs=ys
 |[],[],_,_,_=>rfl
 |[],y::ys,_,_,h=>absurd ((h y).mpr (by simp)) (by simp)
 |x::xs,[],_,_,h=>absurd ((h x).mp (by simp)) (by simp)
 |x::xs,y::ys,h1,h2,h=>by
  have a1:=Aq.mp h1;have a2:=Aq.mp h2;have e:x=y:=by
   refine Classical.byContradiction fun ne=> ?_;have m1:x∈ys:=by rcases AJ.mp ((h x).mp (by simp)) with e|e;exact absurd e ne;exact e
   have m2:y∈xs:=by rcases AJ.mp ((h y).mpr (by simp)) with e|e;exact absurd e.symm ne;exact e
   exact ky (uz (a1.1 y m2) (a2.1 x m1))
  subst e;have:xs=ys:=uC a1.2 a2.2 fun z=>by
   have hz:=h z;rw[AJ,AJ] at hz;constructor
   .intro m;rcases hz.mp (.inr m) with e|e
    .subst e;exact absurd (a1.1 z m) ky
    .exact e
   .intro m;rcases hz.mpr (.inr m) with e|e
    .subst e;exact absurd (a2.1 z m) ky
    .exact e
  rw[this]
theorem GE {p q:Lf} (h:bx p=bx q):p=q:=by rw[<-uo p,<-uo q,h]
theorem GF {ps:O4 Lf}{Lb:O4 (O4 Int)} (nd:Lb.Nodup) (mem:∀z,z∈Lb↔z∈ps.map bx) (so:∀i j,i<j->j<Lb.length->ltI (Lb.getD j []) (Lb.getD i [])=false):Lb=(c7 ps).map bx:=by
 obtain⟨qs,e,hq⟩:=mj (f:=bx) (P:=fun p=>p∈ps) Lb fun v hv=>by
  obtain⟨p,hp,rfl⟩:=Af.mp ((mem v).mp hv);exact⟨p,hp,rfl⟩
 subst e;have:qs=c7 ps:=by
  refine uC ?_ (ox ps) fun z=> ?_
  .rw [List.pairwise_iff_getElem];intro i j hi hj LS;have h1:=so i j LS (by rw[A1];exact hj);rw[A7,A7,AF,AF,A2 hi,A2 hj] at h1;simp only[Option.map_some,Option.getD_some] at h1;rw[GC] at h1;refine uA (by rw[h1];simp) fun e=> ?_;unfold List.Nodup at nd;rw[List.pairwise_map,List.pairwise_iff_getElem] at nd;exact nd i j hi hj LS (by rw[e])
  .rw [ow];constructor
   .exact hq z
   .intro hz;obtain⟨q,hq',e⟩:=Af.mp ((mem (bx z)).mpr (List.mem_map_of_mem hz));rw[<-GE e];exact hq'
 rw[this]
def chF (n:Int):Nat->Int
 |0=>1
 |k+1=>chF n k*(n-(k:Int))/((k:Int)+1)
def chB:Bool:=(List.range 16).all fun n=>(List.range (n+1)).all fun k=>decide (0<=chF (n:Int) k)&&decide (chF (n:Int) k<=6435)
theorem GG:chB=true:=by ac_nf
theorem uD {n:Int}(h1:(k:Int)<=n) (h2:n<=15):0<=chF n k/\chF n k<=6435:=by
 obtain⟨m,rfl⟩:=B1 (show 0<=n by lia);have h:=GG;unfold chB at h;rw[AS] at h;have h:=h m (AW.mpr (by lia));rw[AS] at h;have h:=h k (AW.mpr (by lia));simpa using h
def wmF (t:O4 Int) (p:Nat) (m:Int):O4 Int:=t.set p (t.getD p 0+m)
theorem eC (t:O4 Int) (p:Nat) (m:Int):(wmF t p m).length=t.length:=by unfold wmF;rw[BU]
theorem kz {t:O4 Int}{m:Int} (h:p<t.length):(wmF t p m).getD i 0=t.getD i 0+if p=i then m else 0:=by
 unfold wmF;rw[A7,List.getElem?_set];by_cases e:p=i
 .subst e;simp[h]
 .simp [e]
theorem GH {t:O4 Int}{x:Int} (h:p<t.length):t.take p++[x]++t.drop (p+1)=t.set p x:=by
 rw[List.set_eq_take_append_cons_drop,A8 h];simp
def spR:Nat->Nat->O4 (O4 Nat)
 |0,a=>[[a]]
 |g+1,a=>(List.range (a+1)).flatMap fun h=>(spR g (a-h)).map (h:: ·)
def cc (t:O4 Int):Nat->O4 Nat->Int
 |_,[]=>1
 |p,s::r=>chF (t.getD p 0+(s:Int)) s*cc t (p+1) r
def cj (t:O4 Int):Nat->O4 Nat->O4 Int
 |_,[]=>t
 |p,s::r=>cj (wmF t p (s:Int)) (p+1) r
theorem uE {t:O4 Int}{m:Int}{q:Nat} (hq:q<t.length):∀{r:O4 Nat}{p:Nat},q<p->cc (wmF t q m) p r=cc t p r
 |[],p,_=>rfl
 |s::r,p,h=>by
  unfold cc;rw[kz hq,A6 (by lia),uE hq (r:=r) (by lia)];simp
def pbF:Nat->O4 Int->Nat->Nat->O4 (O4 Int×Int)
 |0,t,p,a=>[(wmF t p (a:Int),chF (t.getD p 0+(a:Int)) a)]
 |g+1,t,p,a=>(List.range (a+1)).flatMap fun h:Nat=>(pbF g (wmF t p (h:Int)) (p+1) (a-h)).map fun x=>(x.1,chF (t.getD p 0+(h:Int)) h*x.2)
theorem uF {α β:Type}{f g:α->O4 β}:∀{xs:O4 α},(∀x∈xs,f x=g x)->xs.flatMap f=xs.flatMap g
 |[],_=>rfl
 |x::xs,h=>by rw[BZ,BZ,h x (by simp),uF fun y hy=>h y (by simp[hy])]
theorem uG:∀{g:Nat}{t:O4 Int}{p a:Nat},p+g<t.length->pbF g t p a=(spR g a).map fun r=>(cj t p r,cc t p r)
 |0,t,p,a,_=>by simp[pbF,spR,cj,cc]
 |g+1,t,p,a,h=>by
  unfold pbF spR;rw[List.map_flatMap];refine uF fun x _=> ?_;rw[uG (by rw[eC];lia),BX,BX];refine B' fun r _=> ?_;simp only[Function.comp,cj,cc];rw[uE (by lia) (BW p)]
theorem oy:∀{g a:Nat}{r:O4 Nat},r∈spR g a->r.length=g+1/\r.sum=a
 |0,a,r,h=>by simp[spR] at h;subst h;simp
 |g+1,a,r,h=>by
  unfold spR at h;obtain⟨x,hx,h⟩:=BJ.mp h;obtain⟨r',h',rfl⟩:=Af.mp h;have hx:=AW.mp hx;obtain⟨e1,e2⟩:=oy h';simp[e1,e2];lia
theorem kA:∀{t:O4 Int}{p:Nat}{m:Int},p<t.length->(wmF t p m).sum=t.sum+m
 |[],p,m,h=>absurd h (by simp)
 |x::t,0,m,_=>by simp[wmF];lia
 |x::t,p+1,m,h=>by
  have:=kA (t:=t) (p:=p) (m:=m) (by simpa using h);unfold wmF at this⊢;simp only[List.set_cons_succ,Aj,List.getD_cons_succ] at this⊢;lia
theorem uH:∀{r:O4 Nat}{t:O4 Int}{p:Nat},p+r.length<=t.length->(∀i:Nat,0<=t.getD i 0)->(cj t p r).length=t.length/\(cj t p r).sum=t.sum+(r.sum:Nat)/\∀i:Nat,0<=(cj t p r).getD i 0
 |[],t,p,_,h=>by simpa[cj] using h
 |s::r,t,p,hl,h=>by
  have hp:p<t.length:=by simp at hl;lia
  obtain⟨e1,e2,e3⟩:=uH (r:=r) (t:=wmF t p (s:Int)) (p:=p+1) (by rw[eC];simp at hl;lia) (fun i=>by rw[kz hp];have:=h i;split<;>lia)
  unfold cj;refine⟨by rw[e1,eC], ?_,e3⟩;rw[e2,kA hp,Aj];lia
theorem gY:∀{t:O4 Int},(∀i:Nat,0<=t.getD i 0)->0<=t.sum/\∀i:Nat,t.getD i 0<=t.sum
 |[],_=>by simp
 |x::t,h=>by
  have hx:=h 0;obtain⟨e1,e2⟩:=gY (t:=t) fun i=>by have:=h (i+1);simpa using this
  simp only[List.getD_cons_zero] at hx;rw[Aj];refine⟨by lia,fun i=> ?_⟩;cases i with
  |zero=>simp;lia
  |succ i=>have:=e2 i;rw[List.getD_cons_succ];lia
theorem uI:∀{r:O4 Nat}{t:O4 Int}{p:Nat},(∀i:Nat,0<=t.getD i 0)->t.sum+(r.sum:Nat)<=15->0<=cc t p r/\cc t p r<=6435^r.length
 |[],t,p,_,_=>by simp[cc]
 |s::r,t,p,h,hs=>by
  rw[Aj] at hs;obtain⟨e1,e2⟩:=gY h;have a1:=e2 p;have a2:=h p;obtain⟨c1,c2⟩:=uD (n:=t.getD p 0+(s:Int)) (k:=s) (by lia) (by lia);obtain⟨q1,q2⟩:=uI (r:=r) (t:=t) (p:=p+1) h (by lia);unfold cc;refine⟨By c1 q1, ?_⟩;rw[Ad,Int.pow_succ,BL];exact CZ q2 c2 c1 (Int.pow_nonneg (by decide))
abbrev Tab:=O4 (O4 Int×Int)
def bF (D:Tab) (g:O4 Int->Int):Int:=(D.map fun x=>x.2*g x.1).sum
def cI (D:Tab) (k:O4 Int):Int:=((D.find? fun x=>decide (x.1=k)).map (·.2)).getD 0
def cR (D:Tab) (k:O4 Int) (v:Int):Tab:=if(D.any fun x=>decide (x.1=k))=true then D.map (fun x=>if x.1=k then(x.1,v) else x) else D++[(k,v)]
def gZ (D:Tab) (k:O4 Int) (v:Int):Tab:=cR D k (cI D k+v)
theorem uJ (D:Tab) (k:O4 Int) (v:Int):(cR D k v).map (·.1)=if k∈D.map (·.1) then D.map (·.1) else D.map (·.1)++[k]:=by
 unfold cR;have:(D.any fun x=>decide (x.1=k))=true↔k∈D.map (·.1):=by
  rw[List.any_eq_true,Af];simp
 by_cases h:k∈D.map (·.1)
 .rw [A8 h,A8 (this.mpr h),BX];refine B' fun x _=> ?_;simp only[Function.comp];split<;>rfl
 .rw [A6 h,A6 (fun z=>h (this.mp z)),A5];rfl
theorem GI {D:Tab}{k:O4 Int}{v:Int}{g:O4 Int->Int} (h:k∉D.map (·.1)):bF (cR D k v) g=bF D g+v*g k/\cI D k=0:=by
 have hn:∀x∈D,x.1≠k:=fun x hx e=>h (Af.mpr ⟨x,hx,e⟩);have e1:(D.any fun x=>decide (x.1=k))=false:=by
  rw[List.any_eq_false];intro x hx;simpa using hn x hx
 have e2:D.find? (fun x=>decide (x.1=k))=none:=by
  rw[DQ];intro x hx;simpa using hn x hx
 unfold cR cI bF;rw[e1,e2];simp
theorem uK:∀{D:Tab}{k:O4 Int}{v:Int}{g:O4 Int->Int},(D.map (·.1)).Nodup->k∈D.map (·.1)->bF (D.map fun x=>if x.1=k then(x.1,v) else x) g=bF D g+(v-cI D k)*g k
 |[],_,_,_,_,h=>by simp at h
 |x::D,k,v,g,nd,h=>by
  rw[AK,Bf] at nd;by_cases e:x.1=k
  .subst e;have hn:∀y∈D,y.1≠x.1:=fun y hy e=>nd.1 (Af.mpr ⟨y,hy,e⟩);have e1:(D.map fun y=>if y.1=x.1 then(y.1,v) else y)=D:=by
    conv=>rhs;rw[<-List.map_id D]
    refine B' fun y hy=> ?_;rw[A6 (hn y hy)];rfl
   have e2:cI (x::D) x.1=x.2:=by simp[cI]
   rw[AK,e1,e2];simp only[bF,C1,AK,Aj];rw[Int.sub_mul];lia
  .have hk:k∈D.map (·.1):=by
    rw[AK,AJ] at h;rcases h with h|h
    .exact absurd h.symm e
    .exact h
   have ih:=uK (g:=g) (v:=v) nd.2 hk;have e2:cI (x::D) k=cI D k:=by simp[cI,BV,e]
   rw[e2,AK];simp only[bF,AK,Aj,A6 e] at ih⊢;lia
theorem GJ {D:Tab} (nd:(D.map (·.1)).Nodup) (k:O4 Int) (v:Int) (g:O4 Int->Int):bF (gZ D k v) g=bF D g+v*g k:=by
 unfold gZ;by_cases h:k∈D.map (·.1)
 .have e:(D.any fun x=>decide (x.1=k))=true:=by
   rw[List.any_eq_true];obtain⟨x,hx,e⟩:=Af.mp h;exact⟨x,hx,Ag e⟩
  unfold cR;rw[A8 e,uK nd h];rw[show cI D k+v-cI D k=v by lia]
 .obtain⟨e1,e2⟩:=GI (v:=cI D k+v) (g:=g) h;rw[e1,e2];simp
theorem uL {D:Tab} (nd:(D.map (·.1)).Nodup) (k:O4 Int) (v:Int):((cR D k v).map (·.1)).Nodup:=by
 rw[uJ];split
 .exact nd
 .rename_i h;rw[List.nodup_append];exact⟨nd,by simp,fun a ha b hb=>by simp at hb;subst hb;exact fun e=>h (e▸ha)⟩
structure TabOk (d n:Nat) (D:Tab):Prop where
 nd:(D.map (·.1)).Nodup
 key:∀x∈D,x.1.length=d/\x.1.sum=(n:Int)/\∀i:Nat,0<=x.1.getD i 0
theorem TabOk.add {D:Tab} (h:TabOk d n D) {k:O4 Int}{v:Int} (hk:k.length=d/\k.sum=(n:Int)/\∀i:Nat,0<=k.getD i 0):TabOk d n (gZ D k v):=by
 refine⟨uL h.nd _ _,fun x hx=> ?_⟩;have:x.1∈(cR D k (cI D k+v)).map (·.1):=List.mem_map_of_mem hx;rw[uJ] at this;have:x.1∈D.map (·.1)\/x.1=k:=by
  split at this
  .exact .inl this
  .rcases BI.mp this with h|h
   .exact .inl h
   .exact .inr (by simpa using h)
 rcases this with h'|h'
 .obtain⟨y,hy,e⟩:=Af.mp h';rw[<-e];exact h.key y hy
 .rw [h'];exact hk
def inP (t:O4 Int) (v:Int) (p:Nat) (rs:O4 (O4 Nat)) (acc:Tab):Tab:=rs.foldl (fun acc r=>gZ acc (cj t p r) (v*cc t p r)) acc
def stP (p:Nat) (rs:O4 (O4 Nat)) (xs acc:Tab):Tab:=xs.foldl (fun acc x=>inP x.1 x.2 p rs acc) acc
def g7 (g:O4 Int->Int) (p:Nat) (rs:O4 (O4 Nat)) (t:O4 Int):Int:=(rs.map fun r=>cc t p r*g (cj t p r)).sum
def oz (p d n n':Nat) (rs:O4 (O4 Nat)):Prop:=∀r∈rs,p+r.length<=d/\n+r.sum=n'
theorem GK {n':Nat}{r:O4 Nat}{t:O4 Int} (h:t.length=d/\t.sum=(n:Int)/\∀i:Nat,0<=t.getD i 0) (hr:p+r.length<=d/\n+r.sum=n'):(cj t p r).length=d/\(cj t p r).sum=(n':Int)/\∀i:Nat,0<=(cj t p r).getD i 0:=by
 obtain⟨e1,e2,e3⟩:=uH (r:=r) (t:=t) (p:=p) (by rw[h.1];exact hr.1) h.2.2;exact⟨by rw[e1,h.1],by rw[e2,h.2.1,<-hr.2];lia,e3⟩
theorem oA {d n n' p:Nat}{t:O4 Int}{v:Int} (h:t.length=d/\t.sum=(n:Int)/\∀i:Nat,0<=t.getD i 0) (g:O4 Int->Int):∀{rs:O4 (O4 Nat)}{acc:Tab},oz p d n n' rs->TabOk d n' acc->TabOk d n' (inP t v p rs acc)/\bF (inP t v p rs acc) g=bF acc g+v*g7 g p rs t
 |[],acc,_,ha=>by simp[inP,g7,ha]
 |r::rs,acc,hr,ha=>by
  have a1:=ha.add (v:=v*cc t p r) (GK h (hr r (by simp)));obtain⟨b1,b2⟩:=oA (v:=v) h g (rs:=rs) (fun r' h'=>hr r' (by simp[h'])) a1;refine⟨b1, ?_⟩;show bF (inP t v p rs (gZ acc (cj t p r) (v*cc t p r))) g=_;rw[b2,GJ ha.nd];simp only[g7,AK,Aj];rw[DD,Int.mul_assoc];lia
theorem oB {d n n' p:Nat}{rs:O4 (O4 Nat)} (hr:oz p d n n' rs) (g:O4 Int->Int):∀{xs acc:Tab},(∀x∈xs,x.1.length=d/\x.1.sum=(n:Int)/\∀i:Nat,0<=x.1.getD i 0)->TabOk d n' acc->TabOk d n' (stP p rs xs acc)/\bF (stP p rs xs acc) g=bF acc g+bF xs (g7 g p rs)
 |[],acc,_,ha=>by simp[stP,bF,ha]
 |x::xs,acc,hx,ha=>by
  obtain⟨a1,a2⟩:=oA (v:=x.2) (hx x (by simp)) g hr ha;obtain⟨b1,b2⟩:=oB hr g (xs:=xs) (fun y hy=>hx y (by simp[hy])) a1;refine⟨b1, ?_⟩;show bF (stP p rs xs (inP x.1 x.2 p rs acc)) g=_;rw[b2,a2];simp only[bF,AK,Aj];lia
def TF (cnt:Lf->Nat):O4 Lf->O4 Int->Int
 |[],_=>1
 |m::ms,t=>g7 (TF cnt ms) (m.1-1).toNat (spR (m.2.1-m.1-1).toNat (cnt m)) t
def hmF (d:Nat) (mk:O4 Lf):Int:=TF (fun m=>mk.count m) (c7 mk) (List.replicate d 0)
theorem GL (D:Tab):bF D (fun _=>1)=(D.map (·.2)).sum:=by
 unfold bF;congr 1
 refine B' fun x _=> ?_;show x.2*1=x.2;lia
def enc:O4 Int->Nat
 |[]=>0
 |x::t=>x.toNat+16*enc t
theorem uM:∀{t:O4 Int},(∀i:Nat,0<=t.getD i 0/\t.getD i 0<=15)->enc t<16^t.length
 |[],_=>by simp[enc]
 |x::t,h=>by
  have h0:=h 0;have ih:=uM (t:=t) fun i=>by have:=h (i+1);simpa using this
  simp only[List.getD_cons_zero] at h0;unfold enc;rw[Ad,Cs];lia
theorem uN:∀{t u:O4 Int},t.length=u.length->(∀i:Nat,0<=t.getD i 0/\t.getD i 0<=15)->(∀i:Nat,0<=u.getD i 0/\u.getD i 0<=15)->enc t=enc u->t=u
 |[],[],_,_,_,_=>rfl
 |[],_::_,h,_,_,_=>absurd h (by simp)
 |_::_,[],h,_,_,_=>absurd h (by simp)
 |x::t,y::u,hl,ht,hu,e=>by
  have h0:=ht 0;have h1:=hu 0;simp only[List.getD_cons_zero] at h0 h1;unfold enc at e;have ih:=uN (t:=t) (u:=u) (by simpa using hl) (fun i=>by have:=ht (i+1);simpa using this) (fun i=>by have:=hu (i+1);simpa using this) (by lia);rw[ih,show x=y by lia]
theorem oC:∀(N:Nat) (xs:O4 Nat),xs.Nodup->(∀x∈xs,x<N)->xs.length<=N
 |0,[],_,_=>AB _
 |0,x::xs,_,h=>absurd (h x (by simp)) (by lia)
 |N+1,xs,nd,h=>by
  have h1:=oC N (xs.filter fun x=>decide (x≠N)) (nd.filter _) fun x hx=>by
   obtain⟨a,b⟩:=Ch.mp hx;have:=h x a;have:x≠N:=by simpa using b
   lia
  have h2:xs.length<=(xs.filter fun x=>decide (x≠N)).length+1:=by
   clear h1 h;induction xs with
   |nil=>simp
   |cons y ys ih=>
    rw[Bf] at nd;by_cases e:y=N
    .subst e;have:(ys.filter fun x=>decide (x≠y))=ys:=by
      rw[List.filter_eq_self];intro z hz;simp;rintro rfl;exact nd.1 hz
     rw[D7,A6 (by simp),this,Ad];exact AB _
    .have:=ih nd.2;rw[D7,A8 (by simpa using e),Ad,Ad];lia
  lia
theorem TabOk.size {D:Tab} (h:TabOk d n D) (hd:d<=5) (hn:n<=15):D.length<=1048576:=by
 have hb:∀x∈D,∀i:Nat,0<=x.1.getD i 0/\x.1.getD i 0<=15:=fun x hx i=>by
  obtain⟨_,e2,e3⟩:=h.key x hx;have:=(gY e3).2 i;exact⟨e3 i,by lia⟩
 have:=oC (16^d) (D.map fun x=>enc x.1) ?_ ?_
 .rw [A1] at this;have:16^d<=16^5:=Bw (by decide) hd;lia
 .have nd:=h.nd;unfold List.Nodup at nd⊢;rw[List.pairwise_map] at nd⊢;refine List.Pairwise.imp_of_mem (fun{a b} ha MQ Kt e=>Kt ?_) nd;exact uN (by rw[(h.key a ha).1,(h.key b MQ).1]) (hb a ha) (hb b MQ) e
 .intro x hx;obtain⟨y,hy,rfl⟩:=Af.mp hx;have:=uM (hb y hy);rw[(h.key y hy).1] at this;exact this
def bq (t:O4 Int):O4 Key:=t.map Sum.inl
theorem jb (t:O4 Int):(bq t).map kV=t.map V.int:=by unfold bq;rw[BX];rfl
theorem uO:∀{t u:O4 Int},bq t=bq u->t=u
 |[],[],_=>rfl
 |[],_::_,h=>by simp[bq] at h
 |_::_,[],h=>by simp[bq] at h
 |x::t,y::u,h=>by
  simp only[bq,AK,CF,Sum.inl.injEq] at h;rw[h.1,uO (t:=t) (u:=u) h.2]
theorem oD {t u:O4 Int}:bq t=bq u↔t=u:=⟨uO,fun e=>by rw[e]⟩
def bh (D:Tab):O4 (O4 Key×V):=D.map fun x=>(bq x.1,V.int x.2)
theorem oE (D:Tab):(bh D).length=D.length:=by unfold bh;rw[A1]
theorem oF (D:Tab) (k:O4 Int) (v:Int):bD (bh D) (bq k) (.int v)=bh (cR D k v):=by
 have e:((bh D).any fun kv=>decide (kv.1=bq k))=(D.any fun x=>decide (x.1=k)):=by
  unfold bh;rw[List.any_map];congr 1
  funext x
  simp only[Function.comp,oD]
 unfold bD cR;rw[e];split
 .unfold bh;rw[BX,BX];refine B' fun x _=> ?_;simp only[Function.comp,oD];split<;>rfl
 .unfold bh;rw[A5];rfl
theorem kB (D:Tab) (k:O4 Int):bJ (bh D) (bq k)=(D.find? fun x=>decide (x.1=k)).map fun x=>V.int x.2:=by
 unfold bJ bh;rw[List.find?_map,Option.map_map];have:((fun kv:O4 Key×V=>decide (kv.1=bq k))∘fun x:O4 Int×Int=>(bq x.1,V.int x.2))=fun x=>decide (x.1=k):=by
  funext x
  simp only[Function.comp,oD]
 rw[this];rfl
theorem GM (D:Tab) (k:O4 Int):(bJ (bh D) (bq k)).getD (.int 0)= .int (cI D k):=by
 rw[kB];unfold cI;cases D.find? fun x=>decide (x.1=k)<;>rfl
theorem GN {D:Tab} (nd:(D.map (·.1)).Nodup) (h:x∈D):bJ (bh D) (bq x.1)=some (.int x.2):=by
 rw[kB];have:D.find? (fun y=>decide (y.1=x.1))=some x:=by
  induction D with
  |nil=>simp at h
  |cons y D ih=>
   rw[AK,Bf] at nd;rcases AJ.mp h with rfl|h
   .simp
   .have:y.1≠x.1:=fun e=>nd.1 (Af.mpr ⟨x,h,e.symm⟩);rw[BV,AX this];exact ih nd.2 h
 rw[this];rfl
theorem GO (D:Tab):(bh D).map (·.2)=(D.map (·.2)).map V.int:=by unfold bh;rw[BX,BX];rfl
def prD (x:O4 Int×Int):D:= .t [tI x.1, .i x.2]
theorem GP (l:O4 Lf) (x:Lf):(List.range l.length).countP (fun j=>decide (l.getD j (0,0,0)=x))=l.count x:=by
 have e:(List.range l.length).map (fun j=>l.getD j (0,0,0))=l:=by
  apply List.ext_getElem?;intro i;rw[AF];rcases C4 i l.length with c|c
  .rw [List.getElem?_range c];simp[List.getD,c]
  .rw [List.getElem?_eq_none (by simpa using c),List.getElem?_eq_none c];rfl
 conv=>rhs;rw[<-e]
 rw[List.count,List.countP_map];congr 1
 funext j
 simp only[Function.comp];exact(Bool.beq_eq_decide_eq _ _).symm
theorem uP:∀(l S:O4 Lf),S.Nodup->(S.map fun m=>l.count m).sum<=l.length
 |[],S,_=>by
  have:(S.map fun m=>List.count m ([]:O4 Lf))=S.map fun _=>0:=by simp
  rw[this];induction S with
  |nil=>simp
  |cons a S ih=>rename_i nd;simpa using ih (Bf.mp nd).2
 |x::l,S,nd=>by
  have ih:=uP l S nd;have:(S.map fun m=>(x::l).count m).sum<=(S.map fun m=>l.count m).sum+1/\(x∉S->(S.map fun m=>(x::l).count m).sum=(S.map fun m=>l.count m).sum):=by
   clear ih;induction S with
   |nil=>simp
   |cons a S ih=>
    obtain⟨n1,n2⟩:=Bf.mp nd;obtain⟨i1,i2⟩:=ih n2;simp only[AK,Aj];by_cases e:x=a
    .subst e;have:=i2 n1;rw[List.count_cons_self];exact⟨by lia,fun h=>absurd (by simp) h⟩
    .have e':List.count a (x::l)=List.count a l:=List.count_cons_of_ne e;rw[e'];exact⟨by lia,fun h=>by rw[i2 (fun z=>h (by simp[z]))]⟩
  rw[Ad];lia
def c8 (ps:O4 Lf):Int:=ps.foldl (fun a p=>a*p.2.2^2) 1
def Okw (d:Nat) (p:Lf):Prop:=Okl d p/\1<=p.2.2/\p.2.2<=2^20
def kC:O4 Lf->Bool
 |[]=>true
 |x::r=>r.all (fun y=> !(bz y x))&&kC r
theorem uQ:∀{ps:O4 Lf},kC ps=true->Srt ps
 |[],_=>List.Pairwise.nil
 |x::r,h=>by
  unfold kC at h;rw[A9,AS] at h;exact Aq.mpr ⟨fun y hy=>by simpa using h.1 y hy,uQ h.2⟩
def kD (d:Nat) (ps:O4 Lf):Bool:=ps.all (i9 d)&&(List.range d).all (fun i=>decide (0<=eF ps i))&&kC ps
theorem GQ {ps:O4 Lf} (h:kD d ps=true):Snd d ps:=by
 unfold kD at h;simp only[A9,AS,AW,AU] at h;exact⟨fun p hp=>by have:=oq.mp (h.1.1 p hp);lia,fun i hi=>h.1.2 i hi,uQ h.2⟩
def hmD (d:Nat) (x:O4 Lf):Int:=hmF d (x++ff d (bI d x))
def jc (d:Nat) (x:O4 Lf):Bool:=kD d x&&decide (x.length<=20)&&decide (0<=c8 x)&&decide (c8 x<2^40)
theorem GR {x:O4 Lf} (h:jc d x=true):Snd d x/\(∀p∈x,Okw d p)/\x.length<=20/\0<=c8 x/\c8 x<2^40:=by
 unfold jc at h;simp only[A9,AU] at h;obtain⟨⟨⟨h1,h2⟩,h3⟩,h4⟩:=h;refine⟨GQ h1,fun p hp=> ?_,h2,h3,h4⟩;unfold kD at h1;simp only[A9,AS] at h1;have:=oq.mp (h1.1.1 p hp);exact⟨⟨by lia,by lia,by lia,by lia⟩,by lia,by lia⟩
def kE (d:Nat) (x:O4 Lf):Int:=c8 x*hmD d x
def wtG:Int->O4 Int->Int
 |_,[]=>0
 |i,x::r=>i*x+wtG (i+1) r
def wtF (r:O4 Int):Int:=wtG 1 r
def rwS (found:O4 (O4 Int)) (n:Int):O4 (O4 Int):=found.flatMap fun b=>(List.range (n+1).toNat).map fun h:Nat=>b++[(h:Int)]
def rwF (row:O4 Int):O4 (O4 Int):=row.foldl rwS [[]]
def rbF:Nat->O4 Int->Int->Nat->O4 (O4 Int)
 |0,_,_,_=>[]
 |n+1,row,wt,first=>if wt-wtF row=0 then [row] else(List.range (min row.length (wt-wtF row).toNat-first)).flatMap fun j=>rbF n (wmF row (first+j) 1) wt (first+j)
def cw:O4 Int->O4 Int->Int
 |x::a,y::b=>chF x y.toNat*cw a b
 |_,_=>1
def wgG:Int->O4 Int->O4 Int->O4 Int
 |i,x::a,y::b=>List.replicate (y-x).toNat i++wgG (i+1) a b
 |_,_,_=>[]
def wgF (r f:O4 Int):O4 Int:=wgG 1 r f
structure Ask4 where
 d:Int
 k:Int
 h:List Int
 f:List Int
variable {q:Ask4}
abbrev Sm4:=Int×O4 Int×Ask4
def dH (q:Ask4) (p:Nat):O4 Sm4:=if q.f.getD p 0>0 then [(1,[(p:Int)+1],⟨q.d,q.k,wmF q.h p 1,wmF q.f p (-1)⟩)] else []
def g8 (q:Ask4):O4 Sm4:=(List.range q.f.length).flatMap (dH q)
def g9 (q:Ask4) (kp fr:O4 Int):Sm4:=(cw q.h kp*cw fr q.f,wgF q.f fr,⟨q.d-1,q.k+fr.sum-q.f.sum-q.d+1,kp,fr⟩)
def dI (q:Ask4) (kp:O4 Int):O4 Sm4:=(rbF 8 q.f (q.d-1-wtF kp) 0).map (g9 q kp)
def hG (q:Ask4):O4 Sm4:=(rwF q.h).flatMap (dI q)
def eD (q:Ask4):O4 Sm4:=g8 q++hG q
def cx (ws:O4 Int):Int:=ws.foldl (· * ·) 1
def fC:Nat->Ask4->Int
 |0,_=>0
 |n+1,q=>if q.k<0 then 0 else if q.d=1 then(if q.k=0 then 1 else 0) else((eD q).map fun x=>x.1*cx x.2.1*fC n x.2.2).sum
def Nn (t:O4 Int):Prop:=∀i:Nat,0<=t.getD i 0
theorem Nn.cons {x:Int}{t:O4 Int}:Nn (x::t)↔0<=x/\Nn t:=by
 constructor
 .intro h;exact⟨h 0,fun i=>h (i+1)⟩
 .rintro⟨a,b⟩ i;cases i with
  |zero=>exact a
  |succ i=>exact b i
theorem dJ:∀{t:O4 Int}{i:Int},0<=i->Nn t->0<=wtG i t
 |[],_,_,_=>CJ 0
 |x::t,i,hi,h=>by
  obtain⟨a,b⟩:=Nn.cons.mp h;have:=dJ (i:=i+1) (by lia) b;have:=By hi a;unfold wtG;lia
theorem du:∀{t:O4 Int}{i:Int},1<=i->Nn t->0<=t.sum/\t.sum<=wtG i t
 |[],_,_,_=>⟨CJ 0,CJ 0⟩
 |x::t,i,hi,h=>by
  obtain⟨a,b⟩:=Nn.cons.mp h;obtain⟨s1,s2⟩:=du (i:=i+1) (by lia) b;have:1*x<=i*x:=Int.mul_le_mul_of_nonneg_right hi a;rw[Aj];unfold wtG;lia
theorem kF {m:Int}:∀{t:O4 Int}{p:Nat}{i:Int},p<t.length->wtG i (wmF t p m)=wtG i t+(i+p)*m
 |[],p,_,h=>absurd h (by simp)
 |x::t,0,i,_=>by
  show wtG i ((x+m)::t)=wtG i (x::t)+_;unfold wtG;rw[DD];simp;lia
 |x::t,p+1,i,h=>by
  have ih:=kF (m:=m) (t:=t) (p:=p) (i:=i+1) (by simpa using h);show wtG i (x::wmF t p m)=wtG i (x::t)+_;unfold wtG;rw[ih,show i+1+(p:Int)=i+((p+1:Nat):Int) by lia];lia
theorem kG {t:O4 Int}{m:Int} (hp:p<t.length) (h:Nn t) (hm:0<=t.getD p 0+m):Nn (wmF t p m):=fun i=>by
 rw[kz hp];split
 .next e=>rw[<-e];exact hm
 .have:=h i;lia
theorem GS {t:O4 Int}{x:Int} (h:Nn t) (hx:0<=x):Nn (t++[x]):=by
 induction t with
 |nil=>exact Nn.cons.mpr ⟨hx,fun i=>by simp⟩
 |cons y t ih=>
  obtain⟨a,b⟩:=Nn.cons.mp h;exact Nn.cons.mpr ⟨a,ih b⟩
def Le:O4 Int->O4 Int->Prop
 |x::a,y::b=>0<=x/\x<=y/\Le a b
 |[],[]=>True
 |_,_=>False
theorem Le.len:∀{a b:O4 Int},Le a b->a.length=b.length
 |[],[],_=>rfl
 |x::a,y::b,h=>BN (· +1) (Le.len h.2.2)
theorem Le.nn:∀{a b:O4 Int},Le a b->Nn a/\Nn b
 |[],[],_=>⟨fun i=>by simp,fun i=>by simp⟩
 |x::a,y::b,h=>by
  obtain⟨p,q⟩:=Le.nn h.2.2;exact⟨Nn.cons.mpr ⟨h.1,p⟩,Nn.cons.mpr ⟨by have:=h.1;have:=h.2.1;lia,q⟩⟩
theorem Le.snoc:∀{a b:O4 Int}{x y:Int},Le a b->0<=x->x<=y->Le (a++[x]) (b++[y])
 |[],[],_,_,_,h1,h2=>⟨h1,h2,trivial⟩
 |_::a,_::b,_,_,h,h1,h2=>⟨h.1,h.2.1,Le.snoc h.2.2 h1 h2⟩
theorem Le.self:∀{a:O4 Int},Nn a->Le a a
 |[],_=>trivial
 |x::a,h=>by
  obtain⟨p,q⟩:=Nn.cons.mp h;exact⟨p,CJ x,Le.self q⟩
theorem Le.wt:∀{a b:O4 Int}{i:Int},0<=i->Le a b->wtG i a<=wtG i b
 |[],[],_,_,_=>CJ 0
 |x::a,y::b,i,hi,h=>by
  have:=Le.wt (i:=i+1) (by lia) h.2.2;have:=CP h.2.1 hi;unfold wtG;lia
theorem Le.gain:∀{a b:O4 Int}{i:Int},1<=i->Le a b->a.sum<=b.sum/\b.sum-a.sum<=wtG i b-wtG i a
 |[],[],_,_,_=>by simp[wtG]
 |x::a,y::b,i,hi,h=>by
  obtain⟨g1,g2⟩:=Le.gain (i:=i+1) (by lia) h.2.2;have h1:=h.2.1;have:1*(y-x)<=i*(y-x):=Int.mul_le_mul_of_nonneg_right hi (by lia);have e:i*(y-x)=i*y-i*x:=Int.mul_sub i y x;rw[Aj,Aj];unfold wtG;lia
theorem Le.wm {a:O4 Int}(h:Le a b) (hp:p<b.length):Le a (wmF b p 1):=by
 induction a generalizing b p with
 |nil=>
  cases b with
  |nil=>exact trivial
  |cons y b=>exact h.elim
 |cons x a ih=>
  cases b with
  |nil=>exact h.elim
  |cons y b=>
   cases p with
   |zero=>exact⟨h.1,by show x<=y+1;have:=h.2.1;lia,h.2.2⟩
   |succ p=>exact⟨h.1,h.2.1,ih h.2.2 (by simpa using hp)⟩
theorem oG {t:O4 Int} (hn:Nn row) (h:t∈rwF row):Le t row:=by
 have go:∀(r2 r1:O4 Int) (F:O4 (O4 Int)),(∀t∈F,Le t r1)->Nn r2->∀t∈r2.foldl rwS F,Le t (r1++r2):=by
  intro r2;induction r2 with
  |nil=>intro r1 F hF _ t ht;rw[B5];exact hF t ht
  |cons n r2 ih=>
   intro r1 F hF hn t ht;obtain⟨n0,n2⟩:=Nn.cons.mp hn;rw[show r1++n::r2=(r1++[n])++r2 by simp];refine ih (r1++[n]) (rwS F n) (fun u hu=> ?_) n2 t ht;obtain⟨b,hb,hu⟩:=BJ.mp hu;obtain⟨k,hk,rfl⟩:=Af.mp hu;have hk:=AW.mp hk;exact(hF b hb).snoc (by lia) (by lia)
 exact go row [] [[]] (fun t ht=>by rw[AY.mp ht];exact trivial) hn t h
theorem uR {F:O4 (O4 Int)}{n:Int}:(rwS F n).length=F.length*(n+1).toNat:=by
 unfold rwS;induction F with
 |nil=>simp
 |cons b F ih=>
  rw[BZ,A',ih,A1,BK,Ad,CH,Nat.add_comm]
theorem GU (n:Nat):n+1<=2^n:=by
 induction n with
 |zero=>decide
 |succ n ih=>rw[Cs];lia
theorem uS:∀(row:O4 Int) (F:O4 (O4 Int)),Nn row->(row.foldl rwS F).length<=F.length*2^row.sum.toNat
 |[],F,_=>by simp
 |n::row,F,h=>by
  obtain⟨a,b⟩:=Nn.cons.mp h;have ih:=uS row (rwS F n) b;rw[uR] at ih;have s0:=(du (i:=1) (by decide) b).1;rw[Aj,show(n+row.sum).toNat=n.toNat+row.sum.toNat by lia,Nat.pow_add,<-Nat.mul_assoc];refine B7 ih (DA _ (Nat.mul_le_mul_left _ ?_));rw[show(n+1).toNat=n.toNat+1 by lia];exact GU _
theorem GV {t:O4 Int} (h:Nn t) (i:Nat):Nn (t.take i):=fun j=>by
 rw[A7,List.getElem?_take];split
 .have:=h j;rwa [A7] at this
 .simp
theorem oH (hn:Nn row) (hs:row.sum<=5) (i:Nat):(rwF (row.take i)).length<=32:=by
 have nt:Nn (row.take i):=fun j=>by
  rw[A7,List.getElem?_take];split
  .have:=hn j;rwa [A7] at this
  .simp
 have st:(row.take i).sum<=5:=by
  have e:(row.take i).sum+(row.drop i).sum=row.sum:=by rw[<-CD,D3]
  have nd:Nn (row.drop i):=fun j=>by
   rw[A7,List.getElem?_drop];have:=hn (i+j);rwa [A7] at this
  have:=(du (i:=1) (by decide) nd).1;lia
 have h:=uS (row.take i) [[]] nt;have s0:=(du (i:=1) (by decide) nt).1;have:2^(row.take i).sum.toNat<=2^5:=Bw (by decide) (by lia);unfold rwF;simp only[Ad,List.length_nil] at h;lia
theorem uT {wt:Int}:∀{n:Nat}{row t:O4 Int}{first:Nat},t∈rbF n row wt first->Nn row->∀{a:O4 Int},Le a row->Le a t/\wtF t=wt
 |0,_,_,_,h,_,_,_=>nomatch h
 |n+1,row,t,first,h,hn,a,ha=>by
  unfold rbF at h;split at h
  .next e=>rw[AY.mp h];exact⟨ha,by lia⟩
  .obtain⟨j,hj,h⟩:=BJ.mp h;have hj:=AW.mp hj;have hp:first+j<row.length:=by lia
   exact uT h (kG hp hn (by have:=hn (first+j);lia)) (ha.wm hp)
theorem oI {wt:Int}:∀{n:Nat}{row:O4 Int}{first:Nat},row.length<=5->(rbF n row wt first).length<=5^n
 |0,_,_,_=>AQ _
 |n+1,row,first,h=>by
  unfold rbF;split
  .exact Nat.one_le_pow _ _ (by decide)
  .have go:∀m,m<=5->((List.range m).flatMap fun j=>rbF n (wmF row (first+j) 1) wt (first+j)).length<=m*5^n:=by
    intro m;induction m with
    |zero=>intro _;exact AQ _
    |succ m ih=>
     intro hm;rw[B0,BF,A',CH,BZ,List.flatMap_nil,B5];have:=ih (by lia);have:=oI (n:=n) (wt:=wt) (row:=wmF row (first+m) 1) (first:=first+m) (by rw[eC];exact h);lia
   have:=go (min row.length (wt-wtF row).toNat-first) (by lia);have h5:(min row.length (wt-wtF row).toNat-first)*5^n<=5*5^n:=DA _ (by lia);rw[Cs,Nat.mul_comm];lia
def ch2:Bool:=(List.range 16).all fun n=>(List.range (n+1)).all fun k=>decide (0<=chF (n:Int) k)&&decide (chF (n:Int) k<=2^n)
theorem GW:ch2=true:=by ac_nf
theorem uU {n k:Int} (h0:0<=k) (h1:k<=n) (h2:n<=15):0<=chF n k.toNat/\chF n k.toNat<=2^n.toNat:=by
 obtain⟨m,rfl⟩:=B1 (show 0<=n by lia);have h:=GW;unfold ch2 at h;rw[AS] at h;have h:=h m (AW.mpr (by lia));rw[AS] at h;have h:=h k.toNat (AW.mpr (by lia));simpa using h
theorem uV:∀{a b:O4 Int},Le a b->b.sum<=15->0<=cw b a/\cw b a<=2^b.sum.toNat
 |[],[],_,_=>by simp[cw]
 |x::a,y::b,h,hs=>by
  obtain⟨h1,h2,h3⟩:=h;have s0:=(du (i:=1) (by decide) (Le.nn h3).2).1;rw[Aj] at hs;obtain⟨c1,c2⟩:=uV h3 (by lia);obtain⟨d1,d2⟩:=uU h1 h2 (by lia);rw[Aj,show(y+b.sum).toNat=y.toNat+b.sum.toNat by lia,Int.pow_add];unfold cw;exact⟨By d1 c1,CZ d2 c2 c1 (Int.pow_nonneg (by decide))⟩
theorem kH {a:O4 Int} (h:Le a b) (hs:b.sum<=5):0<=cw b a/\cw b a<=32:=by
 obtain⟨c1,c2⟩:=uV h (by lia);have s0:=(du (i:=1) (by decide) (Le.nn h).2).1;have:(2:Int)^b.sum.toNat<=2^5:=by
  have:b.sum.toNat=0\/b.sum.toNat=1\/b.sum.toNat=2\/b.sum.toNat=3\/b.sum.toNat=4\/b.sum.toNat=5:=by lia
  rcases this with e|e|e|e|e|e<;>rw[e]<;>decide
 exact⟨c1,by lia⟩
structure AskOk (L:Nat) (q:Ask4):Prop where
 hl:q.h.length=L
 fl:q.f.length=L
 hn:Nn q.h
 fn:Nn q.f
 wt:wtF q.h+wtF q.f=q.d
 d1:1<=q.d
 dL:q.d<=L
 L5:L<=5
 k6:q.k<=6
def muF (q:Ask4):Int:=6*q.d+q.f.sum
section
variable {L:Nat}{q:Ask4}
theorem AskOk.sums (a:AskOk L q):0<=q.h.sum/\q.h.sum<=5/\0<=q.f.sum/\q.f.sum<=5:=by
 obtain⟨h1,h2⟩:=du (i:=1) (by decide) a.hn;obtain⟨f1,f2⟩:=du (i:=1) (by decide) a.fn;have w1:=dJ (i:=1) (by decide) a.hn;have w2:=dJ (i:=1) (by decide) a.fn;have:=a.wt;have:=a.dL;have:=a.L5;unfold wtF at*
 lia
theorem AskOk.held (a:AskOk L q) {x:Sm4} (hx:x∈g8 q):AskOk L x.2.2/\muF x.2.2+1<=muF q/\x.1=1/\∃w:Int,x.2.1=[w]/\1<=w/\w<=5:=by
 unfold g8 at hx;obtain⟨p,hp,hx⟩:=BJ.mp hx;have hp:=AW.mp hp;unfold dH at hx;split at hx
 .next hf=>
  rw[AY.mp hx];have Ky:p<q.h.length:=by rw[a.hl,<-a.fl];exact hp
  have h5:=a.L5;have fl:=a.fl;refine⟨⟨by rw[eC];exact a.hl,by rw[eC];exact fl,kG Ky a.hn (by have:=a.hn p;lia),kG hp a.fn (by lia), ?_,a.d1,a.dL,h5,a.k6⟩, ?_,rfl,_,rfl,by lia,by lia⟩
  .have:=a.wt;show wtF (wmF q.h p 1)+wtF (wmF q.f p (-1))=q.d;unfold wtF at*
   rw[kF Ky,kF hp];lia
  .show 6*q.d+(wmF q.f p (-1)).sum+1<=6*q.d+q.f.sum;rw[kA hp];lia
 .cases hx
theorem AskOk.few (a:AskOk L q) (d2:2<=q.d) {kp fr:O4 Int} (hk:kp∈rwF q.h) (hf:fr∈rbF 8 q.f (q.d-1-wtF kp) 0):AskOk L ⟨q.d-1,q.k+fr.sum-q.f.sum-q.d+1,kp,fr⟩/\6*(q.d-1)+fr.sum+1<=muF q/\Le kp q.h/\Le q.f fr/\fr.sum<=5:=by
 have l1:=oG a.hn hk;obtain⟨l2,e⟩:=uT hf a.fn (Le.self a.fn);have n1:=(Le.nn l1).1;have n2:=(Le.nn l2).2;have w1:=dJ (i:=1) (by decide) n1;have w2:=dJ (i:=1) (by decide) a.fn;obtain⟨g1,g2⟩:=l2.gain (i:=1) (by decide);obtain⟨s1,s2⟩:=du (i:=1) (by decide) n2;have h5:=a.L5;have dL:=a.dL;have k6:=a.k6;have sf:=a.sums;unfold wtF at e w1 w2;refine⟨⟨l1.len.trans a.hl,l2.len.symm.trans a.fl,n1,n2, ?_, ?_, ?_,h5, ?_⟩, ?_,l1,l2, ?_⟩
 .show wtF kp+wtF fr=q.d-1;unfold wtF;lia
 .show 1<=q.d-1;lia
 .show q.d-1<=L;lia
 .show q.k+fr.sum-q.f.sum-q.d+1<=6;lia
 .unfold muF;lia
 .lia
theorem uW {x:Sm4} (hx:x∈hG q):∃kp∈rwF q.h,∃fr∈rbF 8 q.f (q.d-1-wtF kp) 0,x=g9 q kp fr:=by
 unfold hG at hx;obtain⟨kp,hk,hx⟩:=BJ.mp hx;unfold dI at hx;obtain⟨fr,hf,rfl⟩:=Af.mp hx;exact⟨kp,hk,fr,hf,rfl⟩
theorem AskOk.less (a:AskOk L q) (d2:2<=q.d) {x:Sm4} (hx:x∈eD q):AskOk L x.2.2/\muF x.2.2+1<=muF q:=by
 unfold eD at hx;rcases BI.mp hx with hx|hx
 .exact⟨(a.held hx).1,(a.held hx).2.1⟩
 .obtain⟨kp,hk,fr,hf,rfl⟩:=uW hx;obtain⟨h1,h2,_⟩:=a.few d2 hk hf;exact⟨h1,h2⟩
end
theorem AskOk.mu (a:AskOk L q):6<=muF q/\muF q<=35:=by
 have:=a.sums;have:=a.d1;have:=a.dL;have:=a.L5;unfold muF;lia
theorem uX {L:Nat}:∀{n m:Nat}{q:Ask4},AskOk L q->muF q<=n->muF q<=m->fC n q=fC m q
 |0,_,q,a,h,_=>by have:=a.mu;lia
 |_+1,0,q,a,_,h=>by have:=a.mu;lia
 |n+1,m+1,q,a,h1,h2=>by
  unfold fC;split
  .rfl
  .split
   .rfl
   .next hd=>
    refine BN List.sum (B' fun x hx=> ?_);obtain⟨b,c⟩:=a.less (by have:=a.d1;lia) hx;rw[uX b (n:=n) (m:=m) (by lia) (by lia)]
def cF (q:Ask4):Int:=fC 36 q
def GX (h:q.k<0):cF q=0:=A8 h
theorem GY (h:¬q.k<0) (hd:q.d=1):cF q=if q.k=0 then 1 else 0:=by
 unfold cF fC;rw[A6 h,A8 hd]
theorem GZ (a:AskOk L q) (h:¬q.k<0) (hd:¬q.d=1):cF q=((eD q).map fun x=>x.1*cx x.2.1*cF x.2.2).sum:=by
 have e:cF q=fC 37 q:=uX a (by have:=a.mu;lia) (by have:=a.mu;lia);rw[e];unfold fC;rw[A6 h,A6 hd];rfl
theorem uY:∀{t:O4 Int}{i:Int},wtG i (t++[0])=wtG i t
 |[],i=>by simp[wtG]
 |x::t,i=>by
  show i*x+wtG (i+1) (t++[0])=i*x+wtG (i+1) t;rw[uY]
def bW (n:Nat) (t:O4 Int):O4 Int:=t++List.replicate (n-t.length) 0
theorem G2 :∀{t:O4 Int}{i:Int},wtG i (t++List.replicate n 0)=wtG i t:=by
 induction n with
 |zero=>intro t i;simp
 |succ n ih=>
  intro t i;rw[List.replicate_succ',<-BE,uY,ih]
def dw:Nat->Nat->Nat->O4 (O4 Int)
 |_,0,_=>[[]]
 |i,n+1,b=>(List.range (b/i+1)).flatMap fun x=>(dw (i+1) n (b-i*x)).map ((x:Int):: ·)
theorem oJ:∀{n i b:Nat}{t:O4 Int},1<=i->t.length=n->Nn t->wtG (i:Int) t<=b->t∈dw i n b
 |0,i,b,t,_,hl,_,_=>by rw[CN.mp hl];exact AH
 |n+1,i,b,[],_,hl,_,_=>nomatch hl
 |n+1,i,b,x::t,hi,hl,hn,hw=>by
  obtain⟨x0,tn⟩:=Nn.cons.mp hn;obtain⟨m,rfl⟩:=B1 x0;have w:=dJ (i:=(i:Int)+1) (by lia) tn;unfold wtG at hw;have hm:i*m<=b:=by
   have:((i*m:Nat):Int)=(i:Int)*(m:Int):=Int.natCast_mul i m;lia
  unfold dw;refine BJ.mpr ⟨m,AW.mpr (Nat.lt_succ_of_le ((Nat.le_div_iff_mul_le (by lia)).mpr (by rw[Nat.mul_comm];exact hm))),Af.mpr ⟨t,oJ (by lia) (by simpa using hl) tn ?_,rfl⟩⟩;have:((i*m:Nat):Int)=(i:Int)*(m:Int):=Int.natCast_mul i m;show wtG ((i:Int)+1) t<=_;lia
def uZ:Bool:=(List.range 6).all fun L=>decide ((dw 1 L 5).length<=19)
theorem G4:uZ=true:=by ac_nf
theorem G5 (a b:O4 Int):cx (a++b)=cx a*cx b:=by
 have go:∀(b:O4 Int) (x:Int),b.foldl (· * ·) x=x*b.foldl (· * ·) 1:=fun b=>by
  induction b with
  |nil=>intro x;simp
  |cons y b ih=>
   intro x;rw[Cj,Cj,ih,ih (1*y),Int.one_mul,Int.mul_assoc]
 unfold cx;rw[CV,go]
def cL:O4 (O4 Int):=[[],[1],[1,3],[1,12,21,15],[1,27,225,675,666,378,105],[1,48,882,7915]]
def cT (d k:Nat):Int:=(cL.getD d []).getD k 0
theorem G6:∀e:Nat,e<4->∀k:Nat,k<7->cF ⟨((e+1:Nat):Int),(k:Int),bW (e+1) [],bW (e+1) [((e+1:Nat):Int)]⟩=cT (e+1) k:=by ac_nf
theorem G7:∀k:Nat,k<4->cF ⟨((5:Nat):Int),(k:Int),bW 5 [],bW 5 [((5:Nat):Int)]⟩=cT 5 k:=by ac_nf
theorem G8 (h:Wide d k):cF ⟨(d:Int),(k:Int),bW d [],bW d [(d:Int)]⟩=cT d k:=by
 obtain⟨d1,h⟩:=h;rcases h with⟨d4,k6⟩|⟨rfl,k3⟩
 .obtain⟨e,rfl⟩:∃e,d=e+1:=⟨d-1,by lia⟩;exact G6 e (by lia) k (by lia)
 .exact G7 k (by lia)
def fD (d k:Nat):Int:=((cP d k).map (kE d)).sum
def fg (d x n:Nat):O4 Pt:=(List.range n).map fun j:Nat=>((x:Int),(d:Int)-(x:Int)-(j:Int))
def fh (d n:Nat):O4 Pt:=(List.range n).flatMap fun x=>fg d x (d+1-x)
def bo (d:Nat):O4 Pt:=fh d (d+1)
theorem u7 (d n:Nat):fh d (n+1)=fh d n++fg d n (d+1-n):=by unfold fh;rw[B0,BF,List.flatMap_singleton]
theorem G9 (d x n:Nat):fg d x (n+1)=fg d x n++[((x:Int),(d:Int)-(x:Int)-(n:Int))]:=by unfold fg;rw[B0,A5];rfl
theorem u8 (d x n:Nat):(fg d x n).length=n:=by simp[fg]
theorem G' (d n:Nat) (hn:n<=d+1) (hd:d<=5):(fh d n).length<=36:=by
 have:∀m,m<=6->(fh d m).length<=6*m:=fun m hm=>by
  induction m with
  |zero=>simp[fh]
  |succ m ih=>
   have:=ih (by lia);rw[u7,A',u8];lia
 have:=this n (by lia);lia
def lvA {α:Type}:O4 α->Nat->O4 (O4 α)
 |row,0=>[row]
 |[],_+1=>[]
 |x::row,k+1=>(lvA row (k+1)).map (x:: ·)++lvA row k
theorem oK {α:Type}:∀(row:O4 α) (k:Nat),row.length<k->lvA row k=[]
 |_,0,h=>by lia
 |[],_+1,_=>rfl
 |x::row,k+1,h=>by
  simp only[Ad] at h;rw[lvA,oK row (k+1) (by lia),oK row k (by lia)];rfl
theorem jd {α:Type}:∀(row:O4 α) (k:Nat),(lvA row k).length<=2^row.length
 |[],0=>by simp[lvA]
 |[],_+1=>by simp[lvA]
 |x::row,0=>by
  rw[lvA];exact Nat.one_le_two_pow
 |x::row,k+1=>by
  rw[lvA,A',A1,Ad,Cs];have h1:=jd row (k+1);have h2:=jd row k;lia
theorem kI {α:Type}:∀(row:O4 α) (k:Nat) (ws:O4 α),ws∈lvA row k->ws.length<=row.length
 |row,0,ws,h=>by
  have:ws=row:=by cases row<;>simpa[lvA] using h
  rw[this];exact AB _
 |[],_+1,ws,h=>by simp[lvA] at h
 |x::row,k+1,ws,h=>by
  rw[lvA] at h;rcases BI.mp h with q|q
  .obtain⟨us,hu,rfl⟩:=Af.mp q;have:=kI row (k+1) us hu;simp;lia
  .have:=kI row k ws q;simp;lia
def c9 (d:Nat):O4 Pt:=((bo d).drop 1).dropLast
def p0 (d:Nat):Pt:=(0,(d:Int))
def pl (d:Nat):Pt:=((d:Int),0)
def bR (d k:Nat):O4 (O4 Pt):=(lvA (c9 d) k).map fun w=>[p0 d]++w++[pl d]
def dy (d k:Nat):Prop:=1<=d/\((d<=3/\k<=6)\/(d=4/\k<=2))
def bX (H0 H:Hp) (Wq:O4 (O4 V)) (vs:O4 V):Prop:=vs.length=Wq.length/\∀(i:Nat) ws,Wq[i]? =some ws->∃a,vs[i]? =some (.ref a)/\H0 a=none/\H a=some (.lst ws)
theorem bX.nil {H0:Hp}:bX H0 H [] []:=⟨rfl,fun i ws h=>by simp at h⟩
theorem bX.mono {H0 H0':Hp}{Wq:O4 (O4 V)}(h:bX H0 H Wq vs) (s0:ae H0' H0) (s:ae H H'):bX H0' H' Wq vs:=⟨h.1,fun i ws e=>by
 obtain⟨a,e1,e2,e3⟩:=h.2 i ws e;exact⟨a,e1,s0.free e2,s _ _ e3⟩⟩
theorem bX.append {H0:Hp}{Wq W':O4 (O4 V)}{vs':O4 V} (h:bX H0 H Wq vs) (h':bX H0 H W' vs'):bX H0 H (Wq++W') (vs++vs'):=by
 refine⟨by rw[A',A',h.1,h'.1],fun i ws e=> ?_⟩;rcases C4 i Wq.length with q|q
 .rw [Bp q] at e;rw[Bp (by rw[h.1];exact q)];exact h.2 i ws e
 .rw [BS q] at e;rw[BS (by rw[h.1];exact q),h.1];exact h'.2 _ ws e
theorem bX.one {H0:Hp}(h0:H0 a=none) (h:H a=some (.lst ws)):bX H0 H [ws] [.ref a]:=⟨rfl,fun i us e=>by
 match i,e with
 |0,e=>cases e;exact⟨a,rfl,h0,h⟩
 |i+1,e=>simp at e⟩
def upE (d:Nat):O4 Pt:=(List.range (d+1)).map fun i:Nat=>((i:Int),(d:Int)-(i:Int))
def loE (d:Nat):O4 Pt:=((List.range (d+1)).map fun i:Nat=>((0:Int),(d:Int)-(i:Int)))++(List.range d).map fun i:Nat=>((1:Int)+(i:Int),(0:Int))
abbrev Pc:=O4 Pt
def zP:Pt:=(0,0)
def crn (a b c:Pt):Int:=(b.1-a.1)*(c.2-b.2)-(b.2-a.2)*(c.1-b.1)
def bA (ps:O4 Pt) (OB:Int):O7 Nat:=((List.range (ps.length-2)).find? fun i=>decide (crn (ps.getD i zP) (ps.getD (i+1) zP) (ps.getD (i+2) zP)*OB>0)).map (· +1)
def aR (a b c:Pt):Pt:=(a.1+c.1-b.1,a.2+c.2-b.2)
def br (d:Nat) (p:Pt):Bool:=decide (p.1>=0)&&(decide (p.2>=0)&&decide (p.1+p.2<=(d:Int)))
def bB (d:Nat) (ps:O4 Pt) (OB:Int):O4 (Pc×O4 Pt):=match bA ps OB with
 |none=>[]
 |some p=>[([ps.getD (p-1) zP,ps.getD p zP,ps.getD (p+1) zP],ps.take p++ps.drop (p+1))]++
  if br d (aR (ps.getD (p-1) zP) (ps.getD p zP) (ps.getD (p+1) zP))=true then [([ps.getD (p-1) zP,ps.getD p zP,ps.getD (p+1) zP,aR (ps.getD (p-1) zP) (ps.getD p zP) (ps.getD (p+1) zP)],ps.take p++[aR (ps.getD (p-1) zP) (ps.getD p zP) (ps.getD (p+1) zP)]++ps.drop (p+1))] else []
def inB (p:Pt):Bool:=decide (-20<=p.1)&&decide (p.1<=20)&&decide (-20<=p.2)&&decide (p.2<=20)
def psB (ps:O4 Pt):Bool:=ps.all inB&&decide (ps.length<=30)
def pcD (c:Pc):D:= .t (c.map pt)
theorem oM {α:Type}{f:α->D} (z:α) {H:Hp}{Wq:O4 α}{vs:O4 V} (h:Iss H (Wq.map f) vs):∀(l:O4 Nat),(∀i∈l,i<Wq.length)->Iss H ((l.map fun i=>Wq.getD i z).map f) (l.map fun i=>vs.getD i .non)
 |[],_=>ap
 |i::l,hl=>by
  have hi:i<Wq.length:=hl i (by simp);have hr:i<vs.length:=by rw[h.length,A1];exact hi
  refine am ?_ (oM z h l fun j hj=>hl j (by simp[hj]));obtain⟨d,hd,h1⟩:=h.of_get (A2 hr);rw[AF,A2 hi] at hd;cases hd;show Is H (f (Wq.getD i z)) (vs.getD i .non);rw[A7,A7,A2 hi,A2 hr];exact h1
theorem Hg (t:ay H H') {p:Pt}(h:Is H (pt p) v):Is H' (pt p) v:=by
 obtain⟨a,rfl,ha⟩:=jJ h;exact fS (t _ _ ha)
theorem oN {H H':Hp} (t:ay H H'):∀{ps:O4 Pt}{vs:O4 V},Iss H (ps.map pt) vs->Iss H' (ps.map pt) vs
 |[],_,h=>by rw[bp h];exact ap
 |p::ps,_,h=>by
  obtain⟨u,us,rfl,h1,h2⟩:=aQ h;exact am (Hg t h1) (oN t h2)
theorem u9 (t:ay H H') {c:Pc}(h:Is H (pcD c) v):Is H' (pcD c) v:=by
 obtain⟨a,vs,rfl,ha,hi⟩:=bH h;exact bw (t _ _ ha) (oN t hi)
def je {H0:Hp} (s:ae H0 H):ay H (nw H0 H):=fun a xs e=>kx s e
theorem va {H0:Hp}(s:ae H0 H) (n:H0 a=none) (h:Is H (pts ps) (.ref a)):Is (nw H0 H) (pts ps) (.ref a):=by
 obtain⟨_,vs,e,ha,hi⟩:=aB h;cases e;exact aD (by rw[bV n];exact ha) (oN (je s) hi)
theorem Hh {H0 H1:Hp}(n:H1 a=none) (s:ae H1 H2):ae (nw H0 H1) (hid (nw H0 H2) a):=fun b o e=>by
 have hb:b≠a:=by rintro rfl;rw[bE _ _ e] at n;cases n
 rw[dX hb];exact eA s b o e
theorem fj (h:j<ps.length):atI (ps.map pt) (j:Int)=some (pt (ps.getD j zP)):=by
 refine fT (j:=j) rfl ?_;rw[AF,A2 h,A7,A2 h];rfl
theorem dM (h:j<ps.length):ps.getD j zP∈ps:=by
 rw[A7,A2 h];exact D6 h
theorem vb (h:psB ps=true):(∀p∈ps,-20<=p.1/\p.1<=20/\-20<=p.2/\p.2<=20)/\ps.length<=30:=by
 unfold psB inB at h;simp only[A9,AU,AS] at h;exact⟨fun p hp=>by have:=h.1 p hp;lia,h.2⟩
theorem vc {p:Nat->Bool}:∀{n i:Nat},i<n->(∀j<i,p j=false)->p i=true->(List.range n).find? p=some i
 |0,i,h,_,_=>absurd h (by lia)
 |n+1,i,h,hb,hp=>by
  rw[B0,List.find?_append];by_cases e:i=n
  .subst e;have:(List.range i).find? p=none:=by
    rw[DQ];intro j hj;rw[hb j (AW.mp hj)];decide
   rw[this];simp[hp]
  .rw [vc (n:=n) (by lia) hb hp];rfl
theorem Hi {p:Nat->Bool}(h:∀j<n,p j=false):(List.range n).find? p=none:=by
 rw[DQ];intro j hj;rw[h j (AW.mp hj)];decide
theorem jf {s:Int}(h:bA ps s=some p):1<=p/\p+1<ps.length:=by
 unfold bA at h;obtain⟨i,hi,rfl⟩:=AC.mp h;have:=AW.mp (List.mem_of_find?_eq_some hi);lia
def wkP (p:Pt):O4 Int:=[p.1,p.2]
def wk (ps:O4 Pt):O4 (O4 Int):=ps.map wkP
theorem Hj {a b:O4 Pt} (h:wk a=wk b):a=b:=by
 induction a generalizing b with
 |nil=>cases b with
  |nil=>rfl
  |cons=>cases h
 |cons p a ih=>cases b with
  |nil=>cases h
  |cons q b=>
   unfold wk at h;rw[AK,AK] at h;injection h with h1 h2;unfold wkP at h1;simp only[CF,and_true] at h1;rw[ih h2,Prod.ext h1.1 h1.2]
def lam (p:Pt):Int:=10*p.1-p.2
def aH (d:Nat) (ps:O4 Pt):Prop:=(∀p∈ps,br d p=true)/\(ps.map lam).Pairwise (· < ·)
theorem ce {p:Pt}:br d p=true↔0<=p.1/\0<=p.2/\p.1+p.2<=d:=by
 unfold br;simp only[A9,AU,ge_iff_le]
def arF:O4 Pt->Int
 |p::q::r=>(q.1-p.1)*(p.2+q.2)+arF (q::r)
 |_=>0
theorem oO {p:Pt}(h:aH d (p::r)):aH d r:=⟨fun q hq=>h.1 q (AL _ hq),(Aq.mp (by simpa using h.2)).2⟩
theorem oP {p q:Pt}(hd:d<=4) (h:aH d (p::q::r)):p.1<=q.1:=by
 have h1:=ce.mp (h.1 p AH);have h2:=ce.mp (h.1 q (AL _ AH));have h3:lam p<lam q:=by
  have:=h.2;rw[AK,AK] at this;exact(Aq.mp this).1 _ AH
 unfold lam at h3;lia
theorem vd {d:Nat} (hd:d<=4):∀{r:O4 Pt}{p:Pt},aH d (p::r)->arF (p::r)<=2*(d:Int)*((d:Int)-p.1)
 |[],p,h=>by
  have h1:=ce.mp (h.1 p AH);show(0:Int)<=_;exact By (by lia) (by lia)
 |q::r,p,h=>by
  have h1:=ce.mp (h.1 p AH);have h2:=ce.mp (h.1 q (AL _ AH));have h3:=oP hd h;have ih:=vd hd (oO h);have e:(q.1-p.1)*(p.2+q.2)<=(q.1-p.1)*(2*(d:Int)):=CP (by lia) (by lia);have e2:2*(d:Int)*((d:Int)-p.1)=(q.1-p.1)*(2*(d:Int))+2*(d:Int)*((d:Int)-q.1):=by
   rw[BL (q.1-p.1),<-DD];congr 1
   lia
  show(q.1-p.1)*(p.2+q.2)+arF (q::r)<=_;lia
theorem hJ {d:Nat} (hd:d<=4):∀{ps:O4 Pt},aH d ps->0<=arF ps
 |[],_=>CJ 0
 |[_],_=>CJ 0
 |p::q::r,h=>by
  have h1:=ce.mp (h.1 p AH);have h2:=ce.mp (h.1 q (AL _ AH));have h3:=oP hd h;have ih:=hJ hd (oO h);have:=By (a:=q.1-p.1) (b:=p.2+q.2) (by lia) (by lia);show 0<=(q.1-p.1)*(p.2+q.2)+arF (q::r);lia
theorem kJ (hd:d<=4) (h:aH d ps):arF ps<=32:=by
 cases ps with
 |nil=>show(0:Int)<=32;lia
 |cons p r=>
  have h1:=ce.mp (h.1 p AH);have h2:=vd hd h;have h3:2*(d:Int)*((d:Int)-p.1)<=2*(d:Int)*4:=CP (by lia) (by lia);lia
theorem oQ (a:Pt) (r:O4 Pt):∀l:O4 Pt,arF (l++a::r)=arF (l++[a])+arF (a::r)
 |[]=>by show arF (a::r)=0+arF (a::r);lia
 |[p]=>by
  show(a.1-p.1)*(p.2+a.2)+arF (a::r)=(a.1-p.1)*(p.2+a.2)+0+arF (a::r);lia
 |p::q::l=>by
  have ih:=oQ a r (q::l);show(q.1-p.1)*(p.2+q.2)+arF (q::l++a::r)=(q.1-p.1)*(p.2+q.2)+arF (q::l++[a])+arF (a::r);lia
theorem kK (l:O4 Pt) (a b c:Pt) (r:O4 Pt):arF (l++a::c::r)=arF (l++a::b::c::r)+crn a b c:=by
 rw[oQ a (c::r) l,oQ a (b::c::r) l];show _+((c.1-a.1)*(a.2+c.2)+arF (c::r))=_+((b.1-a.1)*(a.2+b.2)+((c.1-b.1)*(b.2+c.2)+arF (c::r)))+crn a b c;unfold crn;simp only[Int.sub_mul,DD,Int.mul_sub];have:=BL;rw[BL b.2 c.1,BL b.2 b.1,BL a.2 c.1,BL a.2 b.1];lia
theorem ve (l:O4 Pt) (a b c:Pt) (r:O4 Pt):arF (l++a::aR a b c::c::r)=arF (l++a::b::c::r)+2*crn a b c:=by
 have h1:=kK l a b c r;have h2:=kK l a (aR a b c) c r;have h3:crn a (aR a b c) c= -crn a b c:=by
  unfold crn aR;simp only[Int.sub_mul,DD,Int.mul_sub,Int.add_mul];rw[BL b.2 c.1,BL b.2 b.1,BL a.2 c.1,BL a.2 b.1,BL a.2 a.1,BL c.2 c.1,BL c.2 b.1,BL b.2 a.1,BL c.2 a.1];lia
 lia
theorem Hk {L R:O4 Int}{A B C F:Int} (h:(L++A::B::C::R).Pairwise (· < ·)) (h1:A<F) (h2:F<C):(L++A::F::C::R).Pairwise (· < ·):=by
 rw[List.pairwise_append] at h⊢;obtain⟨hl,hr,hx⟩:=h;obtain⟨r1,hr⟩:=Aq.mp hr;obtain⟨r2,hr⟩:=Aq.mp hr;obtain⟨r3,hr⟩:=Aq.mp hr;refine⟨hl,Aq.mpr ⟨fun y hy=> ?_,Aq.mpr ⟨fun y hy=> ?_,Aq.mpr ⟨r3,hr⟩⟩⟩,fun x Ku y hy=> ?_⟩
 .rcases AJ.mp hy with rfl|hy
  .exact h1
  .exact r1 y (AL _ hy)
 .rcases AJ.mp hy with rfl|hy
  .exact h2
  .have:=r3 y hy;lia
 .rcases AJ.mp hy with rfl|hy
  .exact hx x Ku _ AH
  rcases AJ.mp hy with rfl|hy
  .have:=hx x Ku A AH;lia
  .exact hx x Ku y (AL _ (AL _ hy))
theorem vf (h1:1<=p) (h2:p+1<ps.length):∃l a b c r,ps=l++a::b::c::r/\p=l.length+1/\ps.getD (p-1) zP=a/\ps.getD p zP=b/\ps.getD (p+1) zP=c/\ps.take p=l++[a]/\ps.drop (p+1)=c::r:=by
 obtain⟨i,rfl⟩:∃i,p=i+1:=⟨p-1,by lia⟩;have e0:ps.drop i=ps[i]::ps[i+1]::ps[i+2]::ps.drop (i+3):=by
  rw[Ar (by lia),Ar (by lia),Ar (by lia)]
 have e1:ps=ps.take i++ps[i]::ps[i+1]::ps[i+2]::ps.drop (i+3):=by rw[<-e0,D3]
 refine⟨ps.take i,ps[i],ps[i+1],ps[i+2],ps.drop (i+3),e1,by rw[Ac];lia, ?_, ?_, ?_, ?_, ?_⟩
 .simp [List.getD,show i<ps.length by lia]
 .simp [List.getD,show i+1<ps.length by lia]
 .simp [List.getD,show i+1+1<ps.length by lia]
 .rw [AN,A2 (by lia)];rfl
 .rw [Ar (by lia)]
theorem Hl (h:bA ps 1=some p):(1<=p/\p+1<ps.length)/\0<crn (ps.getD (p-1) zP) (ps.getD p zP) (ps.getD (p+1) zP):=by
 refine⟨jf h, ?_⟩;unfold bA at h;obtain⟨i,hi,rfl⟩:=AC.mp h;have:=List.find?_some hi;rw[AU] at this;show 0<crn (ps.getD i zP) (ps.getD (i+1) zP) (ps.getD (i+2) zP);lia
theorem vg {l:O4 Pt}{a b c:Pt} (h:aH d (l++a::b::c::r)):aH d (l++a::c::r):=by
 have s:(l++a::c::r).Sublist (l++a::b::c::r):=List.Sublist.append_left (List.Sublist.cons₂ a (List.sublist_cons_self b _)) l;exact⟨fun p hp=>h.1 p (s.subset hp),h.2.sublist (s.map lam)⟩
theorem vh {l:O4 Pt}{a b c:Pt} (h:aH d (l++a::b::c::r)) (hf:br d (aR a b c)=true):aH d (l++a::aR a b c::c::r):=by
 refine⟨fun p hp=> ?_, ?_⟩
 .have:p∈l++a::b::c::r\/p=aR a b c:=by
   rcases BI.mp hp with hp|hp
   .exact .inl (Bx _ hp)
   rcases AJ.mp hp with hp|hp
   .exact .inl (Al _ (by rw[hp];exact AH))
   rcases AJ.mp hp with hp|hp
   .exact .inr hp
   .exact .inl (Al _ (AL _ (AL _ hp)))
  rcases this with hp|hp
  .exact h.1 p hp
  .rw [hp];exact hf
 .have h2:=h.2;rw[A5,AK,AK,AK] at h2⊢;obtain⟨_,hr,_⟩:=List.pairwise_append.mp h2;obtain⟨r1,hr⟩:=Aq.mp hr;obtain⟨r2,hr⟩:=Aq.mp hr;have e1:=r1 (lam b) AH;have e2:=r2 (lam c) AH;refine Hk h2 ?_ ?_
  .unfold lam aR at*;dsimp only at*;lia
  .unfold lam aR at*;dsimp only at*;lia
theorem kL (h:aH d ps) {x:Pc×O4 Pt} (hx:x∈bB d ps 1):aH d x.2/\arF ps+1<=arF x.2/\x.2.length<=ps.length:=by
 unfold bB at hx;cases hT:bA ps 1 with
 |none=>rw[hT] at hx;exact nomatch hx
 |some p=>
  rw[hT] at hx;dsimp only at hx;obtain⟨⟨p1,p2⟩,hc⟩:=Hl hT;obtain⟨l,a,b,c,r,e,ep,ga,gb,gc,et,ed⟩:=vf p1 p2;rw[ga,gb,gc,et,ed] at hx;rw[ga,gb,gc] at hc;have hl:=BN List.length e;rw[e] at h;rcases BI.mp hx with hx|hx
  .rw [AY.mp hx];have ea:l++[a]++c::r=l++a::c::r:=by simp
   dsimp only;rw[ea];refine⟨vg h, ?_, ?_⟩
   .have:=kK l a b c r;rw[e];lia
   .simp at hl⊢;lia
  .cases hP:br d (aR a b c) with
   |false=>rw[hP] at hx;simp at hx
   |true=>
    rw[hP,A8 rfl] at hx;rw[AY.mp hx];have ea:l++[a]++[aR a b c]++c::r=l++a::aR a b c::c::r:=by simp
    dsimp only;rw[ea];refine⟨vh h hP, ?_, ?_⟩
    .have:=ve l a b c r;rw[e];lia
    .simp at hl⊢;lia
def abI (i:Int):Int:=if i<0 then -i else i
def pwF (c:Pc):Int:=if c.length=3 then abI (crn (c.getD 0 zP) (c.getD 1 zP) (c.getD 2 zP)) else 1
def wF (d:Nat):Nat->O4 Pt->Int
 |0,_=>0
 |n+1,ps=>if ps=upE d then 1 else((bB d ps 1).map fun x=>pwF x.1*wF d n x.2).sum
theorem vi {d:Nat} (hd:d<=4):∀{n m:Nat}{ps:O4 Pt},aH d ps->33-arF ps<=n->33-arF ps<=m->wF d n ps=wF d m ps
 |0,m,ps,h,h1,h2=>by have:=kJ hd h;lia
 |n+1,0,ps,h,h1,h2=>by have:=kJ hd h;lia
 |n+1,m+1,ps,h,h1,h2=>by
  unfold wF;by_cases e:ps=upE d
  .rw [A8 e,A8 e]
  .rw [A6 e,A6 e];congr 1
   refine B' fun x hx=> ?_;obtain⟨a,b,_⟩:=kL h hx;rw[vi hd a (by lia) (by lia) (m:=m)]
theorem Hm (d n:Nat) (ps:O4 Pt):wF d (n+1) ps=if ps=upE d then 1 else((bB d ps 1).map fun x=>pwF x.1*wF d n x.2).sum:=by rw[wF]
theorem Hn (hd:d<=4) (hn:33<=n) (hm:33<=m) (h:aH d ps):wF d (n+1) ps=if ps=upE d then 1 else((bB d ps 1).map fun x=>pwF x.1*wF d m x.2).sum:=by
 rw[Hm];by_cases e:ps=upE d
 .rw [A8 e,A8 e]
 .rw [A6 e,A6 e];congr 1
  refine B' fun x hx=> ?_;obtain⟨a,b,_⟩:=kL h hx;have:=hJ hd h;rw[vi hd a (n:=n) (m:=m) (by lia) (by lia)]
def hU:Nat:=40
def wW (d:Nat) (ps:O4 Pt):Int:=wF d hU ps
theorem vj (hd:d<=4) (h:aH d ps):wW d ps=if ps=upE d then 1 else((bB d ps 1).map fun x=>pwF x.1*wW d x.2).sum:=by
 obtain⟨n,hn⟩:∃n,hU=n+1:=⟨39,rfl⟩;have h33:33<=n:=by have:hU=40:=rfl;lia
 unfold wW;rw[hn];exact Hn hd h33 (by lia) h
section
variable {κ:Type} [DecidableEq κ]
def tK (R:O4 (κ×Int)):O4 (κ×V):=R.map fun x=>(x.1,V.int x.2)
def dz:O4 (κ×Int)->κ->Int
 |[],_=>0
 |(a,b)::r,k=>if a=k then b else dz r k
def ck:O4 (κ×Int)->κ->Int->O4 (κ×Int)
 |[],k,v=>[(k,v)]
 |(a,b)::r,k,v=>if a=k then(a,v)::r else(a,b)::ck r k v
theorem vk (R:O4 (κ×Int)):(tK R).length=R.length:=by unfold tK;rw[A1]
theorem gg (k:κ):∀R:O4 (κ×Int),bJ (tK R) k=if k∈R.map (·.1) then some (.int (dz R k)) else none
 |[]=>rfl
 |(a,b)::r=>by
  have ih:=gg k r;show bJ ((a,V.int b)::tK r) k=_;by_cases e:a=k
  .subst e;rw[iy rfl];simp[dz]
  .rw [iz e,ih];have:¬k=a:=fun z=>e z.symm;show _=if k∈a::r.map (·.1) then some (V.int (if a=k then b else dz r k)) else none
   rw[A6 e];by_cases h:k∈r.map (·.1)
   .rw [A8 h,A8 (AL _ h)]
   .rw [A6 h,A6 fun z=>(AJ.mp z).elim this h]
theorem oR (k:κ) (v:Int):∀R:O4 (κ×Int),(ck R k v).map (·.1)=if k∈R.map (·.1) then R.map (·.1) else R.map (·.1)++[k]
 |[]=>by simp[ck]
 |(a,b)::r=>by
  have ih:=oR k v r;unfold ck;by_cases e:a=k
  .subst e;simp
  .rw [A6 e,AK,ih];have:¬k=a:=fun z=>e z.symm;show _=if k∈a::r.map (·.1) then a::r.map (·.1) else a::r.map (·.1)++[k]
   by_cases h:k∈r.map (·.1)
   .rw [A8 h,A8 (AL _ h)]
   .rw [A6 h,A6 fun z=>(AJ.mp z).elim this h];rfl
theorem vm {k:κ}{v:Int}{R:O4 (κ×Int)} (h:(R.map (·.1)).Nodup):((ck R k v).map (·.1)).Nodup:=by
 rw[oR];by_cases e:k∈R.map (·.1)
 .rw [A8 e];exact h
 .rw [A6 e];refine List.nodup_append.mpr ⟨h,by simp,fun a ha b hb z=> ?_⟩;rw[AY.mp hb] at z;exact e (z▸ha)
theorem oS {k:κ}{v:Int}:∀{R:O4 (κ×Int)}{x:κ×Int},x∈ck R k v->x∈R\/x=(k,v)
 |[],x,h=> .inr (AY.mp h)
 |(a,b)::r,x,h=>by
  unfold ck at h;by_cases e:a=k
  .rw [A8 e] at h;rcases AJ.mp h with h|h
   .exact .inr (by rw[h,e])
   .exact .inl (AL _ h)
  .rw [A6 e] at h;rcases AJ.mp h with h|h
   .exact .inl (by rw[h];exact AH)
   .exact(oS h).imp (AL _) id
theorem oU {k:κ}{v:Int}:∀{R:O4 (κ×Int)},(R.map (·.1)).Nodup->bD (tK R) k (.int v)=tK (ck R k v)
 |[],_=>rfl
 |(a,b)::r,nd=>by
  rw[AK,Bf] at nd;have ih:=oU (k:=k) (v:=v) nd.2;unfold bD at ih⊢;show(if(((a,V.int b)::tK r).any fun kv=>decide (kv.1=k))=true then _ else _)=_;rw[List.any_cons];by_cases e:a=k
  .subst e;rw[Ag rfl,Bool.true_or,A8 rfl];unfold ck;rw[A8 rfl];show((a,V.int b)::tK r).map _=(a,V.int v)::tK r;rw[AK,A8 rfl];congr 1
   conv=>rhs;rw[<-List.map_id (tK r)]
   refine B' fun x hx=> ?_;obtain⟨y,hy,rfl⟩:=Af.mp hx;rw[A6 fun z=>nd.1 (Af.mpr ⟨y,hy,z⟩)];rfl
  .rw [AX e,Bool.false_or];unfold ck;rw[A6 e];show _=(a,V.int b)::tK (ck r k v);rw[<-ih];by_cases c:((tK r).any fun kv=>decide (kv.1=k))=true
   .rw [A8 c,A8 c];show((a,V.int b)::tK r).map _=_;rw[AK,A6 e]
   .rw [A6 c,A6 c];rfl
end
theorem kM {α:Type} [DecidableEq α]:∀{l L:O4 α},l.Nodup->(∀x∈l,x∈L)->l.length<=L.length
 |[],L,_,_=>AQ _
 |x::r,L,nd,h=>by
  rw[Bf] at nd;have hx:x∈L:=h x AH;have:=kM (L:=L.erase x) nd.2 fun y hy=>(List.mem_erase_of_ne fun e:y=x=>nd.1 (e▸hy)).mpr (h y (AL _ hy));rw[List.length_erase_of_mem hx] at this;have:=List.length_pos_of_mem hx;rw[Ad];lia
def gh:O4 Pt->O4 (O4 Pt)
 |[]=>[[]]
 |x::r=>gh r++(gh r).map (x:: ·)
theorem vn:∀r:O4 Pt,(gh r).length=2^r.length
 |[]=>rfl
 |x::r=>by
  unfold gh;rw[A',A1,vn r,Ad,Cs];lia
theorem kN:∀{row ps:O4 Pt},(row.map lam).Pairwise (· < ·)->(ps.map lam).Pairwise (· < ·)->(∀p∈ps,p∈row)->ps∈gh row
 |[],[],_,_,_=>AY.mpr rfl
 |[],p::r,_,_,h=>absurd (h p AH) (by simp)
 |x::row,ps,h1,h2,h3=>by
  rw[AK] at h1;obtain⟨hx,h1⟩:=Aq.mp h1;unfold gh;cases ps with
  |nil=>exact Bx _ (kN h1 h2 fun p hp=>nomatch hp)
  |cons p r=>
   rw[AK] at h2;obtain⟨hp,h2⟩:=Aq.mp h2;have Ld:∀q∈r,q∈row:=fun q hq=>by
    rcases AJ.mp (h3 q (AL _ hq)) with e|e
    .exfalso;have a1:=hp (lam q) (Af.mpr ⟨q,hq,rfl⟩);rcases AJ.mp (h3 p AH) with e2|e2
     .rw [e,e2] at a1;lia
     .have:=hx (lam p) (Af.mpr ⟨p,e2,rfl⟩);rw[e] at a1;lia
    .exact e
   rcases AJ.mp (h3 p AH) with e|e
   .rw [e];exact Al _ (Af.mpr ⟨r,kN h1 h2 Ld,rfl⟩)
   .refine Bx _ (kN h1 (by rw[AK];exact Aq.mpr ⟨hp,h2⟩) fun q hq=> ?_);rcases AJ.mp hq with rfl|hq
    .exact e
    .exact Ld q hq
def ptB:Bool:=(List.range 5).all fun d=>((bo d).map lam).Pairwise (· < ·)&&decide ((bo d).length<=15)&&(bo d).all (br d)&&(List.range 5).all fun x=>(List.range 5).all fun y=> !decide (x+y<=d)||(bo d).contains ((x:Int),(y:Int))
theorem Ho:ptB=true:=by ac_nf
theorem vo (hd:d<=4):aH d (bo d)/\(bo d).length<=15/\∀p,br d p=true->p∈bo d:=by
 have h:=Ho;unfold ptB at h;rw[AS] at h;have h:=h d (AW.mpr (by lia));simp only[A9,AU,AS] at h;obtain⟨⟨⟨h1,h2⟩,h3⟩,h4⟩:=h;refine⟨⟨h3,h1⟩,h2,fun p hp=> ?_⟩;obtain⟨p1,p2,p3⟩:=ce.mp hp;have h4:=h4 p.1.toNat (AW.mpr (by lia)) p.2.toNat (AW.mpr (by lia));rw[CS,Bool.not_eq_true',decide_eq_false_iff_not] at h4;have h4:=h4.resolve_left (by lia);rw[List.contains_iff_mem] at h4;have e:((p.1.toNat:Int),(p.2.toNat:Int))=p:=Prod.ext (show((p.1.toNat:Int))=p.1 by lia) (show((p.2.toNat:Int))=p.2 by lia)
 rwa [e] at h4
theorem Hq (hd:d<=4) (nd:(R.map (·.1)).Nodup) (h:∀x∈R,∃ps,aH d ps/\x.1=wk ps):R.length<=32768:=by
 obtain⟨h1,h2,h3⟩:=vo hd;have e:(R.map (·.1)).length<=((gh (bo d)).map wk).length:=kM nd fun k hk=>by
  obtain⟨x,hx,rfl⟩:=Af.mp hk;obtain⟨ps,ok,e⟩:=h x hx;rw[e];exact Af.mpr ⟨ps,kN h1.2 ok.2 fun p hp=>h3 p (ok.1 p hp),rfl⟩
 rw[A1,A1,vn] at e;have:2^(bo d).length<=2^15:=Bw (by decide) h2;lia
theorem Hr (hd:d<=4) (h:aH d ps):ps.length<=15:=by
 obtain⟨h1,h2,h3⟩:=vo hd;have nd:ps.Nodup:=List.Pairwise.of_map lam (fun a b ND e=>by rw[e] at ND;lia) h.2;have:=kM nd fun p hp=>h3 p (h.1 p hp);lia
theorem Hs (hd:d<=4) (h:aH d ps):psB ps=true:=by
 unfold psB inB;simp only[A9,AU,AS];refine⟨fun p hp=> ?_,by have:=Hr hd h;lia⟩;have:=ce.mp (h.1 p hp);lia
def upB:Bool:=(List.range 5).all fun d=>decide (((upE d).map lam).Pairwise (· < ·))&&(upE d).all (br d)&&decide (bA (upE d) 1=none)
theorem Ht:upB=true:=by ac_nf
theorem oV (hd:d<=4):aH d (upE d)/\bA (upE d) 1=none:=by
 have h:=Ht;unfold upB at h;rw[AS] at h;have h:=h d (AW.mpr (by lia));simp only[A9,AU,AS] at h;exact⟨⟨h.1.2,h.1.1⟩,h.2⟩
theorem vp {d:Nat} (hd:d<=4):∀{r:O4 Pt}{p:Pt},aH d (p::r)->arF (p::r)<=((d:Int)-p.1)*((d:Int)-p.1)
 |[],p,h=>by
  show(0:Int)<=_;have h1:=ce.mp (h.1 p AH);exact By (by lia) (by lia)
 |q::r,p,h=>by
  have h1:=ce.mp (h.1 p AH);have h2:=ce.mp (h.1 q (AL _ AH));have h3:=oP hd h;have ih:=vp hd (oO h);have e:(q.1-p.1)*(p.2+q.2)<=(q.1-p.1)*(((d:Int)-p.1)+((d:Int)-q.1)):=CP (by lia) (by lia);have sq:∀u v:Int,u*u=(u-v)*(u+v)+v*v:=fun u v=>by
   rw[Int.sub_mul,DD,DD,BL v u];lia
  have e2:=sq ((d:Int)-p.1) ((d:Int)-q.1);rw[show(d:Int)-p.1-((d:Int)-q.1)=q.1-p.1 by lia] at e2;show(q.1-p.1)*(p.2+q.2)+arF (q::r)<=_;lia
theorem Hu (hd:d<=4) (h:aH d ps):arF ps<=16:=by
 cases ps with
 |nil=>show(0:Int)<=16;lia
 |cons p r=>
  have h1:=ce.mp (h.1 p AH);have h2:=vp hd h;have h3:((d:Int)-p.1)*((d:Int)-p.1)<=4*4:=CZ (by lia) (by lia) (by lia) (by lia);lia
theorem Hv (h:bA ps (-1)=some p):(1<=p/\p+1<ps.length)/\crn (ps.getD (p-1) zP) (ps.getD p zP) (ps.getD (p+1) zP)<0:=by
 refine⟨jf h, ?_⟩;unfold bA at h;obtain⟨i,hi,rfl⟩:=AC.mp h;have:=List.find?_some hi;rw[AU] at this;show crn (ps.getD i zP) (ps.getD (i+1) zP) (ps.getD (i+2) zP)<0;lia
theorem kO (h:aH d ps) {x:Pc×O4 Pt} (hx:x∈bB d ps (-1)):aH d x.2/\arF x.2+1<=arF ps/\x.2.length<=ps.length:=by
 unfold bB at hx;cases hT:bA ps (-1) with
 |none=>rw[hT] at hx;exact nomatch hx
 |some p=>
  rw[hT] at hx;dsimp only at hx;obtain⟨⟨p1,p2⟩,hc⟩:=Hv hT;obtain⟨l,a,b,c,r,e,ep,ga,gb,gc,et,ed⟩:=vf p1 p2;rw[ga,gb,gc,et,ed] at hx;rw[ga,gb,gc] at hc;have hl:=BN List.length e;rw[e] at h;rcases BI.mp hx with hx|hx
  .rw [AY.mp hx];have ea:l++[a]++c::r=l++a::c::r:=by simp
   dsimp only;rw[ea];refine⟨vg h, ?_, ?_⟩
   .have:=kK l a b c r;rw[e];lia
   .simp at hl⊢;lia
  .cases hP:br d (aR a b c) with
   |false=>rw[hP] at hx;simp at hx
   |true=>
    rw[hP,A8 rfl] at hx;rw[AY.mp hx];have ea:l++[a]++[aR a b c]++c::r=l++a::aR a b c::c::r:=by simp
    dsimp only;rw[ea];refine⟨vh h hP, ?_, ?_⟩
    .have:=ve l a b c r;rw[e];lia
    .simp at hl⊢;lia
def vF (d:Nat):Nat->O4 Pt->Int
 |0,_=>0
 |n+1,ps=>if ps=loE d then 1 else((bB d ps (-1)).map fun x=>pwF x.1*vF d n x.2).sum
theorem vq {d:Nat} (hd:d<=4):∀{n m:Nat}{ps:O4 Pt},aH d ps->arF ps+1<=n->arF ps+1<=m->vF d n ps=vF d m ps
 |0,m,ps,h,h1,h2=>by have:=hJ hd h;lia
 |n+1,0,ps,h,h1,h2=>by have:=hJ hd h;lia
 |n+1,m+1,ps,h,h1,h2=>by
  unfold vF;by_cases e:ps=loE d
  .rw [A8 e,A8 e]
  .rw [A6 e,A6 e];congr 1
   refine B' fun x hx=> ?_;obtain⟨a,b,_⟩:=kO h hx;rw[vq hd a (by lia) (by lia) (m:=m)]
theorem Hw (d n:Nat) (ps:O4 Pt):vF d (n+1) ps=if ps=loE d then 1 else((bB d ps (-1)).map fun x=>pwF x.1*vF d n x.2).sum:=by rw[vF]
theorem Hx (hd:d<=4) (hn:33<=n) (hm:33<=m) (h:aH d ps):vF d (n+1) ps=if ps=loE d then 1 else((bB d ps (-1)).map fun x=>pwF x.1*vF d m x.2).sum:=by
 rw[Hw];by_cases e:ps=loE d
 .rw [A8 e,A8 e]
 .rw [A6 e,A6 e];congr 1
  refine B' fun x hx=> ?_;obtain⟨a,b,_⟩:=kO h hx;have:=Hu hd h;rw[vq hd a (n:=n) (m:=m) (by lia) (by lia)]
def vW (d:Nat) (ps:O4 Pt):Int:=vF d hU ps
theorem vt (hd:d<=4) (h:aH d ps):vW d ps=if ps=loE d then 1 else((bB d ps (-1)).map fun x=>pwF x.1*vW d x.2).sum:=by
 obtain⟨n,hn⟩:∃n,hU=n+1:=⟨39,rfl⟩;have h33:33<=n:=by have:hU=40:=rfl;lia
 unfold vW;rw[hn];exact Hx hd h33 (by lia) h
def loB:Bool:=(List.range 5).all fun d=>decide (((loE d).map lam).Pairwise (· < ·))&&(loE d).all (br d)&&decide (bA (loE d) (-1)=none)
theorem Hy:loB=true:=by ac_nf
theorem oW (hd:d<=4):aH d (loE d)/\bA (loE d) (-1)=none:=by
 have h:=Hy;unfold loB at h;rw[AS] at h;have h:=h d (AW.mpr (by lia));simp only[A9,AU,AS] at h;exact⟨⟨h.1.2,h.1.1⟩,h.2⟩
structure Side (d:Nat) (sg:Int) (e0:O4 Pt) (Wq mu:O4 Pt->Int):Prop where
 sd:sg=1\/sg= -1
 eq:∀ps,aH d ps->Wq ps=if ps=e0 then 1 else((bB d ps sg).map fun x=>pwF x.1*Wq x.2).sum
 st:∀ps x,aH d ps->x∈bB d ps sg->aH d x.2/\mu x.2+1<=mu ps
 lo:∀ps,aH d ps->0<=mu ps/\mu ps<=32
 eok:aH d e0
 en:bA e0 sg=none
theorem oX (hd:d<=4):Side d 1 (upE d) (wW d) (fun ps=>32-arF ps) where
 sd:= .inl rfl
 eq:=fun ps h=>vj hd h
 st:=fun ps x h hx=>⟨(kL h hx).1,by have:=(kL h hx).2.1;lia⟩
 lo:=fun ps h=>by have:=kJ hd h;have:=hJ hd h;lia
 eok:=(oV hd).1
 en:=(oV hd).2
theorem oY (hd:d<=4):Side d (-1) (loE d) (vW d) arF where
 sd:= .inr rfl
 eq:=fun ps h=>vt hd h
 st:=fun ps x h hx=>⟨(kO h hx).1,(kO h hx).2.1⟩
 lo:=fun ps h=>by have:=kJ hd h;have:=hJ hd h;lia
 eok:=(oW hd).1
 en:=(oW hd).2
theorem Side.way {mu:O4 Pt->Int} (S:Side d sg e0 Wq mu) (ok:aH d qs) (hT:bA qs sg=some p):Wq qs=abI (crn (qs.getD (p-1) zP) (qs.getD p zP) (qs.getD (p+1) zP))*Wq (qs.take p++qs.drop (p+1))+if br d (aR (qs.getD (p-1) zP) (qs.getD p zP) (qs.getD (p+1) zP))=true then Wq (qs.take p++[aR (qs.getD (p-1) zP) (qs.getD p zP) (qs.getD (p+1) zP)]++qs.drop (p+1)) else 0:=by
 have Kt:qs≠e0:=fun e=>by rw[e,S.en] at hT;cases hT
 rw[S.eq _ ok,A6 Kt];unfold bB;rw[hT];dsimp only;by_cases c:br d (aR (qs.getD (p-1) zP) (qs.getD p zP) (qs.getD (p+1) zP))=true
 .rw [A8 c,A8 c];simp[pwF]
 .rw [A6 c,A6 c];simp[pwF]
theorem Side.none {d:Nat}{sg:Int}{e0:O4 Pt}{Wq mu:O4 Pt->Int} (S:Side d sg e0 Wq mu) {qs:O4 Pt} (ok:aH d qs) (hT:bA qs sg=none):Wq qs=if qs=e0 then 1 else 0:=by
 rw[S.eq _ ok];unfold bB;rw[hT];rfl
theorem Side.step {mu:O4 Pt->Int} (S:Side d sg e0 Wq mu) (ok:aH d qs) (hT:bA qs sg=some p):(aH d (qs.take p++qs.drop (p+1))/\mu (qs.take p++qs.drop (p+1))+1<=mu qs)/\(br d (aR (qs.getD (p-1) zP) (qs.getD p zP) (qs.getD (p+1) zP))=true->aH d (qs.take p++[aR (qs.getD (p-1) zP) (qs.getD p zP) (qs.getD (p+1) zP)]++qs.drop (p+1))/\mu (qs.take p++[aR (qs.getD (p-1) zP) (qs.getD p zP) (qs.getD (p+1) zP)]++qs.drop (p+1))+1<=mu qs):=by
 have e:bB d qs sg=[([qs.getD (p-1) zP,qs.getD p zP,qs.getD (p+1) zP],qs.take p++qs.drop (p+1))]++if br d (aR (qs.getD (p-1) zP) (qs.getD p zP) (qs.getD (p+1) zP))=true then [([qs.getD (p-1) zP,qs.getD p zP,qs.getD (p+1) zP,aR (qs.getD (p-1) zP) (qs.getD p zP) (qs.getD (p+1) zP)],qs.take p++[aR (qs.getD (p-1) zP) (qs.getD p zP) (qs.getD (p+1) zP)]++qs.drop (p+1))] else []:=by
  unfold bB;rw[hT]
 refine⟨?_,fun c=> ?_⟩
 .exact S.st qs ([qs.getD (p-1) zP,qs.getD p zP,qs.getD (p+1) zP],qs.take p++qs.drop (p+1)) ok (by rw[e];exact Bx _ AH)
 .exact S.st qs ([qs.getD (p-1) zP,qs.getD p zP,qs.getD (p+1) zP,aR (qs.getD (p-1) zP) (qs.getD p zP) (qs.getD (p+1) zP)],qs.take p++[aR (qs.getD (p-1) zP) (qs.getD p zP) (qs.getD (p+1) zP)]++qs.drop (p+1)) ok (by rw[e,A8 c];exact Al _ AH)
theorem Hz (hd:d<=4) {a b c:Pt} (ha:br d a=true) (hb:br d b=true) (hc:br d c=true):(crn a b c).natAbs<=32:=by
 have h1:=ce.mp ha;have h2:=ce.mp hb;have h3:=ce.mp hc;have m:∀x y:Int,-4<=x->x<=4->-4<=y->y<=4->(x*y).natAbs<=16:=fun x y a1 a2 b1 b2=>by
  rw[Int.natAbs_mul];exact C8 (show x.natAbs<=4 by lia) (show y.natAbs<=4 by lia)
 have m1:=m (b.1-a.1) (c.2-b.2) (by lia) (by lia) (by lia) (by lia);have m2:=m (b.2-a.2) (c.1-b.1) (by lia) (by lia) (by lia) (by lia);unfold crn;clear h1 h2 h3 m ha hb hc hd;lia
theorem Side.big {d:Nat} (hd:d<=4) {sg:Int}{e0:O4 Pt}{Wq mu:O4 Pt->Int} (S:Side d sg e0 Wq mu):∀(n:Nat) {ps:O4 Pt},aH d ps->mu ps<n->(Wq ps).natAbs<=64^n
 |0,ps,h,hn=>by have:=(S.lo ps h).1;lia
 |n+1,ps,h,hn=>by
  have one:0<64^n:=Nat.pow_pos (by decide);rw[Cs];cases hT:bA ps sg with
  |none=>
   rw[S.none h hT];split<;>(show _<=_)<;>simp<;>lia
  |some p=>
   obtain⟨⟨l1,l2⟩,mm⟩:=S.step h hT;obtain⟨p1,p2⟩:=jf hT;have ih1:=S.big hd n l1 (by lia);have c32:=Hz hd (h.1 _ (dM (ps:=ps) (j:=p-1) (by lia))) (h.1 _ (dM (ps:=ps) (j:=p) (by lia))) (h.1 _ (dM (ps:=ps) (j:=p+1) (by lia)));rw[S.way h hT];have a32:(abI (crn (ps.getD (p-1) zP) (ps.getD p zP) (ps.getD (p+1) zP))).natAbs<=32:=by unfold abI;split<;>lia
   have e1:(abI (crn (ps.getD (p-1) zP) (ps.getD p zP) (ps.getD (p+1) zP))*Wq (ps.take p++ps.drop (p+1))).natAbs<=32*64^n:=by
    rw[Int.natAbs_mul];exact C8 a32 ih1
   by_cases c:br d (aR (ps.getD (p-1) zP) (ps.getD p zP) (ps.getD (p+1) zP))=true
   .rw [A8 c];have ih2:=S.big hd n (mm c).1 (by have:=(mm c).2;lia);have:=Int.natAbs_add_le (abI (crn (ps.getD (p-1) zP) (ps.getD p zP) (ps.getD (p+1) zP))*Wq (ps.take p++ps.drop (p+1))) (Wq (ps.take p++[aR (ps.getD (p-1) zP) (ps.getD p zP) (ps.getD (p+1) zP)]++ps.drop (p+1)));lia
   .rw [A6 c,Int.add_zero];lia
theorem Side.bits (hd:d<=4) {mu:O4 Pt->Int} (S:Side d sg e0 Wq mu) (h:aH d ps):(Wq ps).natAbs<2^512:=by
 have h1:=S.big hd 33 h (by have:=(S.lo ps h).2;lia);have h2:(64:Nat)^33<2^512:=by
  have e:(64:Nat)^33=2^198:=by decide
  rw[e];exact Nat.pow_lt_pow_right (by decide) (by decide)
 lia
def oZ (d:Nat) (w:O4 Pt):Bool:=w.all (br d)&&decide ((w.map lam).Pairwise (· < ·))
theorem HA {w:O4 Pt} (h:oZ d w=true):aH d w:=by
 unfold oZ at h;simp only[A9,AU,AS] at h;exact h
def eE (d:Nat) (L:O4 (O4 Pt)):Int:=(L.map fun w=>wW d w*vW d w).sum
def cD (L:O4 (O4 Lf)) (i j:Nat):O7 Bool:=L[i]?.bind fun x=>L[j]?.map fun y=>fc x y
def inF (j:Int) (p:Lf):Bool:=decide (p.1<j)&&decide (j<=p.2.1)
def de (ps:O4 Lf) (j:Int):Int:=((ps.filter (inF j)).map (·.2.2)).sum
def aP (ps:O4 Lf):Int:=dF (ps.map (·.2.1))
def HB (ps:O4 Lf):Int:=(ps.map fun p=>(p.2.1-p.1)*p.2.2-1).sum
def fk (ps:O4 Lf) (n:Nat):O4 Int:=(List.range n).map fun i:Nat=>de ps (1+(i:Int))-(1+(i:Int))+1
def OkP (p:Lf):Prop:=0<=p.1/\p.1<p.2.1/\p.2.1<=40/\1<=p.2.2/\p.2.2<=4
def OkT (ps:O4 Lf):Prop:=ps.length<=20/\(∀p∈ps,OkP p)/\∃p∈ps,p.1=0
theorem o0 (ns:O4 Int):∀k,(argBest (fun i j=>decide (ns.getD i 0>ns.getD j 0)) k)<=k/\∀i,i<=k->ns.getD i 0<=ns.getD (argBest (fun i j=>decide (ns.getD i 0>ns.getD j 0)) k) 0
 |0=>⟨AB _,fun i hi=>by rw[show i=0 by lia];exact CJ _⟩
 |k+1=>by
  obtain⟨h1,h2⟩:=o0 ns k;unfold argBest;generalize argBest (fun i j=>decide (ns.getD i 0>ns.getD j 0)) k=m at h1 h2;by_cases c:ns.getD (k+1) 0>ns.getD m 0
  .rw [A8 (Ag c)];refine⟨AB _,fun i hi=> ?_⟩;by_cases e:i=k+1
   .rw [e];exact CJ _
   .have:=h2 i (by lia);lia
  .rw [A6 (by rw[AX c];decide)];refine⟨by lia,fun i hi=> ?_⟩;by_cases e:i=k+1
   .rw [e];lia
   .exact h2 i (by lia)
theorem HC {x:Int} (h:x∈ns):x<=dF ns:=by
 obtain⟨i,hi,rfl⟩:=CI.mp h;have:=(o0 ns (ns.length-1)).2 i (by lia);rw[A7,A2 hi] at this;exact this
theorem o6 (h:0<ns.length):dF ns∈ns:=by
 have h1:=(o0 ns (ns.length-1)).1;unfold dF;generalize argBest (fun i j=>decide (ns.getD i 0>ns.getD j 0)) (ns.length-1)=m at h1;rw[A7,A2 (by lia)];exact D6 _
theorem vv:∀{ns:O4 Int}{x:Int},x∈ns->(∀n∈ns,0<=n)->x<=ns.sum
 |n::ns,x,hx,h=>by
  rw[Aj];have h0:=h n (by simp);have hs:0<=ns.sum:=by
   have:∀ms:O4 Int,(∀m∈ms,0<=m)->0<=ms.sum:=fun ms=>by
    induction ms with
    |nil=>intro _;simp
    |cons m ms ih=>intro hm;rw[Aj];have:=hm m (by simp);have:=ih fun k hk=>hm k (by simp[hk]);lia
   exact this ns fun k hk=>h k (by simp[hk])
  rcases AJ.mp hx with e|hx
  .lia
  .have:=vv hx fun k hk=>h k (by simp[hk]);lia
theorem HD {ps:O4 Lf} (h:OkT ps):1<=de ps 1:=by
 obtain⟨_,hp,p,hm,h0⟩:=h;obtain⟨p1,p2,p3,p4,p5⟩:=hp p hm;have:p.2.2<=de ps 1:=by
  refine vv (Af.mpr ⟨p,Ch.mpr ⟨hm, ?_⟩,rfl⟩) fun n hn=> ?_
  .unfold inF;rw[Ag (show p.1<1 by lia),Ag (show 1<=p.2.1 by lia)];rfl
  .obtain⟨q,hq,rfl⟩:=Af.mp hn;have:=(hp q (Ch.mp hq).1).2.2.2.1;lia
 lia
theorem HE {ps:O4 Lf} (h:OkT ps):1<=aP ps/\aP ps<=40:=by
 obtain⟨_,hp,p,hm,h0⟩:=h;have m:aP ps∈ps.map (·.2.1):=o6 (by rw[A1];cases ps with|nil=>cases hm|cons=>simp);obtain⟨q,hq,e⟩:=Af.mp m;obtain⟨q1,q2,q3,q4,q5⟩:=hp q hq;have e:q.2.1=aP ps:=e;lia
theorem o7 (ps:O4 Lf) (n:Nat):(fk ps n).length=n:=by simp[fk]
def vw {ps:O4 Lf}(h:i<n):de ps (1+(i:Int))-(1+(i:Int))+1<=dF (fk ps n):=HC (Af.mpr ⟨i,AW.mpr h,rfl⟩)
theorem HF {ps:O4 Lf}(h:0<n):∃i:Nat,i<n/\de ps (1+(i:Int))-(1+(i:Int))+1=dF (fk ps n):=by
 obtain⟨i,hi,e⟩:=Af.mp (o6 (ns:=fk ps n) (by rw[o7];exact h));exact⟨i,AW.mp hi,e⟩
def fE (i j:Int) (k n:Nat):O4 Lf:=((List.range n).map fun w:Nat=>((i,j,1+(w:Int)):Lf)).filter fun p=>decide (1<=aV p)&&decide (aV p<=(k:Int))
def dN (i:Nat) (k m:Nat):O4 Lf:=(List.range m).flatMap fun j:Nat=>fE (i:Int) ((i:Int)+1+(j:Int)) k (k+1)
def bS (k n:Nat):O4 Lf:=(List.range n).flatMap fun i:Nat=>dN i k (k+1-i)
def bY:Nat->O4 Lf->Int->O4 (O4 Lf)
 |0,_,_=>[]
 |n+1,ls,k=>if k=0 then [[]] else(List.range ls.length).flatMap fun i=>match ls[i]? with
  |none=>[]
  |some p=>if aV p<=k then(bY n (ls.drop i) (k-aV p)).map (p:: ·) else []
def df (n:Nat) (ls:O4 Lf) (k:Int) (i:Nat):O4 (O4 Lf):=match ls[i]? with
  |none=>[]
  |some p=>if aV p<=k then(bY n (ls.drop i) (k-aV p)).map (p:: ·) else []
def o8 (n:Nat) (ls:O4 Lf) (k:Int):bY (n+1) ls k=if k=0 then [[]] else(List.range ls.length).flatMap (df n ls k):=rfl
def gi (n:Int) (ps:O4 Lf):Bool:=ps.any fun p=>decide (p.1<n)&&decide (n<p.2.1)
def dO (ps:O4 Lf):Bool:=decide ((ps.getD 0 (1,0,0)).1=0)&&(List.range ((aP ps).toNat-1)).all fun i:Nat=>gi (1+(i:Int)) ps
def bt (k:Nat):O4 (O4 Lf):=(bY 4 (bS k (k+1)) k).filter dO
def oT (k:Nat):O7 (Array Nat):=eW (cD (bt k)) (bt k).length
def sT (k:Nat):O4 (O4 Lf):=if(bt k).length<2 then bt k else((oT k).getD #[]).toList.map fun i=>(bt k).getD i []
def HG (ps:O4 Lf):Bool:=(List.range (ps.map bx).length).all fun j=>(List.range j).all fun i=> !(ltI ((ps.map bx).getD j []) ((ps.map bx).getD i []))
def tmB (k:Nat) (ps:O4 Lf):Bool:=decide (ps≠[])&&HG ps&&(ps.all fun p=>decide (0<=p.1)&&decide (p.1<p.2.1)&&decide (p.2.1<=10)&&decide (1<=p.2.2)&&decide (p.2.2<=4)&&decide (2<=(p.2.1-p.1)*p.2.2))&&decide ((ps.getD 0 (1,0,0)).1=0)&&decide (HB ps=k)&&((List.range ((aP ps).toNat-1)).all fun i:Nat=>gi (1+(i:Int)) ps)&&decide (ps.length<=10)
def kP:O4 (O4 Lf)->Bool
 |x::y::r=>fc x y&&kP (y::r)
 |_=>true
def lgB (p:Lf):Bool:=decide (0<=p.1)&&decide (p.1<p.2.1)&&decide (p.2.1<=10)&&decide (1<=p.2.2)&&decide (p.2.2<=10)&&decide (1<=aV p)
def pwB:O4 Lf->Bool
 |[]=>true
 |x::r=>(r.all fun y=>bz x y)&&pwB r
def okT (k:Nat):Bool:=(bS k (k+1)).all lgB&&pwB (bS k (k+1))&&decide ((bS k (k+1)).length<=100)&&decide ((bY 4 (bS k (k+1)) k).length<=900)
def o9 (k:Nat) (S:O4 (O4 Lf)):Bool:=decide ((bt k).length<=1000)&&S.all (tmB k)&&kP S&&(bt k).all fun w=>S.contains w
def hV (k:Nat):Prop:=okT k=true/\(¬(bt k).length<2->∃p,eW (cD (bt k)) (bt k).length=some p/\p.size<=1000/\∀i∈p.toList,i<(bt k).length)/\(bt k).length<=1000/\(∀w∈sT k,tmB k w=true)/\kP (sT k)=true/\∀w∈bt k,w∈sT k
theorem HH {S:O4 (O4 Lf)} (h:o9 k S=true):(bt k).length<=1000/\(∀w∈S,tmB k w=true)/\kP S=true/\∀w∈bt k,w∈S:=by
 unfold o9 at h;simp only[A9,AU,AS,List.contains_iff_mem] at h;obtain⟨⟨⟨e2,e3⟩,e4⟩,e5⟩:=h;exact⟨e2,e3,e4,e5⟩
theorem pe {p:O4 Nat} (hk:okT k=true) (hl:¬(bt k).length<2) (ho:oT k=some p.toArray) (hp:(decide (p.length<=1000)&&p.all fun i=>decide (i<(bt k).length))=true) (hr:o9 k (p.map fun i=>(bt k).getD i [])=true):hV k:=by
 have e:sT k=p.map fun i=>(bt k).getD i []:=by
  unfold sT;rw[A6 hl,ho];rfl
 simp only[A9,AU,AS] at hp;unfold hV;rw[e];exact⟨hk,fun _=>⟨p.toArray,ho,by simpa using hp.1,fun i hi=>hp.2 i (by simpa using hi)⟩,HH hr⟩
theorem HI:hV 1:=pe (p:=[0,1]) (by ac_nf) (by ac_nf) (by ac_nf) (by ac_nf) (by ac_nf)
theorem HJ:hV 2:=pe (p:=[0,1,2,3,4,5,6]) (by ac_nf) (by ac_nf) (by ac_nf) (by ac_nf) (by ac_nf)
theorem HK:hV 3:=pe (p:=[0,1,2,3,4,5,6,7,8,9,10,11,12,13,14,15,16,17,18,19,20,21,22,23,24,25]) (by ac_nf) (by ac_nf) (by ac_nf) (by ac_nf) (by ac_nf)
theorem HL (h1:1<=k) (h3:k<=3):hV k:=by
 have:k=1\/k=2\/k=3:=by lia
 rcases this with rfl|rfl|rfl
 .exact HI
 .exact HJ
 .exact HK
def bT (ps:O4 Lf):Int:=dF (fk ps (aP ps).toNat)
def hvB (r:Int) (p:Lf):Bool:=decide (p.2.1=r)&&decide (p.2.2>1)
def ic (d:Int) (ps:O4 Lf):Int:=if(ps.filter (hvB (aP ps))).length=0 then d+1-aP ps else d-aP ps
def fF (ps:O4 Lf) (pl:Int):O4 Lf:=(ps.map fun p=>(p.1+1,p.2.1+1,p.2.2))++(List.range (aP ps).toNat).flatMap fun i:Nat=>List.replicate (pl+(1+(i:Int))-1-de ps (1+(i:Int))).toNat ((1+(i:Int),1+(i:Int)+1,1):Lf)
abbrev Rw:=Int×Int×Int×Int
variable {S:O4 Rw}
def rwC (c:Nat) (ps:O4 Lf) (i:Nat):Rw:=((c:Int),bT ps+(i:Int),bT ps+(i:Int)+aP ps,hmF (aP ps).toNat (fF ps (bT ps+(i:Int)))*c8 ps)
def cy (d:Int) (c:Nat) (ps:O4 Lf) (n:Nat):O4 Rw:=(List.range n).map (rwC c ps)
def nP (d:Int) (ps:O4 Lf):Nat:=(ic d ps+1-bT ps).toNat
def pf (d:Int) (c:Nat):O4 Rw:=(sT c).flatMap fun ps=>cy d c ps (nP d ps)
def dP (d:Int) (k:Nat):O4 Rw:=(List.range k).flatMap fun c=>pf d (c+1)
def cdF (S:O4 Rw):Nat->Nat->Int->Int
 |_,0,_=>1
 |0,_+1,_=>0
 |n+1,k+1,f=>(S.map fun r=>if r.1<=((k+1:Nat):Int)/\f<=r.2.1 then r.2.2.2*cdF S n (((k+1:Nat):Int)-r.1).toNat r.2.2.1 else 0).sum
def vx (d k:Nat):Int:=cdF (dP (d:Int) k) 3 k 1
def tpB (ps:O4 Lf):Bool:=decide (1<=aP ps)&&decide (aP ps<=4)&&decide (ps.length<=3)&&(ps.all fun p=>decide (0<=p.1)&&decide (p.1<p.2.1)&&decide (p.2.1<=4)&&decide (1<=p.2.2)&&decide (p.2.2<=4))&&(ps.any fun p=>decide (p.1=0))&&((List.range 4).all fun i=>decide (0<=de ps (1+(i:Int))))&&decide (0<=c8 ps)&&decide (c8 ps<2^40)&&
 (List.range 5).all fun e=>decide (nP ((e:Int)+1) ps<=5)&&(List.range (nP ((e:Int)+1) ps)).all fun i=>decide (bT ps+(i:Int)<=5)&&(decide ((fF ps (bT ps+(i:Int))).length<=15)&&ssB ((fF ps (bT ps+(i:Int))).map bx))&&(fF ps (bT ps+(i:Int))).all fun m=>decide (1<=m.1)&&decide (m.1<m.2.1)&&decide (m.2.1<=aP ps+1)
theorem vy:([1,2,3].all fun c=>(sT c).all tpB&&decide ((sT c).length<=30))=true:=by ac_nf
def rwB (k:Nat) (r:Rw):Bool:=decide (1<=r.1)&&decide (r.1<=(k:Int))&&decide (0<=r.2.1)&&decide (1<=r.2.2.1)&&decide (r.2.2.1<=20)&&decide (0<=r.2.2.2)&&decide (r.2.2.2<2^60)
theorem HM:((List.range 5).all fun d=>(List.range 4).all fun k=>decide (vx (d+1) k=fD (d+1) k)&&(dP ((d:Int)+1) k).all (rwB k)&&decide ((dP ((d:Int)+1) k).length<=300))=true:=by ac_nf
theorem HN {ps:O4 Lf} (h:OkT ps) (j:Int):de ps j<=80:=by
 have key:∀qs:O4 Lf,(∀p∈qs,p.2.2<=4)->((qs.filter (inF j)).map (·.2.2)).sum<=4*(qs.length:Int):=by
  intro qs;induction qs with
  |nil=>intro _;simp
  |cons q qs ih=>
   intro hq;have h1:=ih fun p hp=>hq p (by simp[hp]);have h2:=hq q (by simp);rw[D7];split
   .rw [AK,Aj,Ad];lia
   .rw [Ad];lia
 have:=key ps fun p hp=>(h.2.1 p hp).2.2.2.2;have:=h.1;unfold de;lia
def mkD (d:Nat) (x:O4 Lf):O4 (O4 Int):=(x++ff d (bI d x)).map bx
def mkB (d:Nat) (x:O4 Lf):Bool:=((x++ff d (bI d x)).all fun m=>decide (1<=m.1)&&decide (m.1<m.2.1)&&decide (m.2.1<=(d:Int)+1))&&decide ((x++ff d (bI d x)).length<=15)&&ssB (mkD d x)
def kQ (c:Nat->Nat->O7 Bool) (n:Nat):Bool:=decide (n<2)||match eW c n with
 |none=>false
 |some p=>decide (p.size<=1000)&&p.toList.isPerm (List.range n)
def sDr (d k:Nat):Bool:=kQ (fun i j=>(cP d k)[i]?.bind fun x=>(cP d k)[j]?.map fun y=>fc x y) (cP d k).length
def f92 (d k:Nat):Bool:=okB d k&&(cP d k).all (fun x=>jc d x&&mkB d x)&&decide ((cP d k).length<=1000)
def Fl (d k:Nat):Prop:=f92 d k=true/\sDr d k=true/\fD d k=cT d k
def a92 (d k:Nat):Bool:=f92 d k&&sDr d k&&decide (fD d k=cT d k)
theorem HP:((List.range 7).all (a92 1))=true:=by ac_nf
theorem HQ:((List.range 7).all (a92 2))=true:=by ac_nf
theorem HR:((List.range 7).all (a92 3))=true:=by ac_nf
theorem HS:((List.range 7).all (a92 4))=true:=by ac_nf
theorem HU:((List.range 3).all (a92 5))=true:=by ac_nf
theorem HV:f92 5 3=true:=by ac_nf
theorem HW:sDr 5 3=true:=by ac_nf
theorem HX:fD 5 3=cT 5 3:=by ac_nf
theorem ph (h:Wide d k):Fl d k:=by
 unfold Wide at h;have go:∀{m n:Nat},((List.range n).all (a92 m))=true->∀{k},k<n->Fl m k:=fun h k hk=>by
  have:=AS.mp h k (AW.mpr hk);unfold a92 at this;simp only[A9,AU] at this;exact⟨this.1.1,this.1.2,this.2⟩
 have hd:d=1\/d=2\/d=3\/d=4\/(d=5/\k<3)\/(d=5/\k=3):=by lia
 rcases hd with rfl|rfl|rfl|rfl|⟨rfl,hk⟩|⟨rfl,rfl⟩
 .exact go HP (by lia)
 .exact go HQ (by lia)
 .exact go HR (by lia)
 .exact go HS (by lia)
 .exact go HU hk
 .exact⟨HV,HW,HX⟩
theorem HY (h:Wide d k):(okB d k=true/\(cP d k).length<=1000/\sDr d k=true)/\(∀x∈cP d k,jc d x=true/\mkB d x=true):=by
 obtain⟨a,b,_⟩:=ph h;unfold f92 at a;simp only[A9,AU,AS] at a;exact⟨⟨a.1.1,a.2,b⟩,a.1.2⟩
def sWy (d k:Nat):Bool:=kQ (fun i j=>(bR d k)[i]?.bind fun x=>(bR d k)[j]?.map fun y=>fU x y) (bR d k).length
def w92 (d k:Nat):Bool:=decide ((bR d k).length<=1000)&&(bR d k).all (oZ d)&&sWy d k&&decide (eE d (bR d k)=cT d k)
def Wy (d k:Nat):Prop:=((bR d k).length<=1000/\sWy d k=true)/\(∀w∈bR d k,aH d w)/\eE d (bR d k)=cT d k
theorem ie (h:w92 d k=true):Wy d k:=by
 unfold w92 at h;simp only[A9,AU,AS] at h;exact⟨⟨h.1.1.1,h.1.2⟩,fun w hw=>HA (h.1.1.2 w hw),h.2⟩
theorem HZ:((List.range 7).all (w92 1))=true:=by ac_nf
theorem Ia:((List.range 7).all (w92 2))=true:=by ac_nf
theorem Ib:((List.range 3).all (w92 3))=true:=by ac_nf
theorem Ic:w92 3 3=true:=by ac_nf
theorem Ie:w92 3 4=true:=by ac_nf
theorem Ig:w92 3 5=true:=by ac_nf
theorem Ih:w92 3 6=true:=by ac_nf
theorem Ii:((List.range 2).all (w92 4))=true:=by ac_nf
theorem Ij:w92 4 2=true:=by ac_nf
theorem kR (h:dy d k):Wy d k:=by
 unfold dy at h;have go:∀{m n:Nat},((List.range n).all (w92 m))=true->∀{k},k<n->Wy m k:=fun h k hk=>ie (AS.mp h k (AW.mpr hk));have hd:d=1\/d=2\/(d=3/\k<3)\/(d=3/\k=3)\/(d=3/\k=4)\/(d=3/\k=5)\/(d=3/\k=6)\/(d=4/\k<2)\/(d=4/\k=2):=by lia
 rcases hd with rfl|rfl|⟨rfl,hk⟩|⟨rfl,rfl⟩|⟨rfl,rfl⟩|⟨rfl,rfl⟩|⟨rfl,rfl⟩|⟨rfl,hk⟩|⟨rfl,rfl⟩
 .exact go HZ (by lia)
 .exact go Ia (by lia)
 .exact go Ib hk
 .exact ie Ic
 .exact ie Ie
 .exact ie Ig
 .exact ie Ih
 .exact go Ii hk
 .exact ie Ij
theorem Ik (h:i<ks.length):atI (ks.map V.int) (i:Int)=some (.int (ks.getD i 0)):=jB (by rw[AF,A2 h];simp[List.getD,h])
abbrev Bag (H:Hp) (b:OZ) (Ld st:Int):Prop:=H b=some (.lst [.int Ld, .int st])
inductive spCell (K:W.Frag) (vs:List V) (H:Hp) (Q:VK) (E':XK):Prop
 |mk (a:Addr) (ns:List Int) (k:Int):vs=[.ref a, .int k]->SqL K H a (ns.map V.int)->0<=k->(∀z,Q (.int z) H)->spCell K vs H Q E'
inductive spBag (vs:List V) (H:Hp) (Q:VK) (E':XK):Prop
 |mk (c pl:Int):vs=[.int c, .int pl]->0<=pl->pl<=100000->(∀(b:Addr) (Ld st:Int) (H':Hp),ae H H'->H b=none->Bag H' b Ld st->0<=Ld->0<=st->Q (.ref b) H')->spBag vs H Q E'
inductive spMixed (vs:List V) (H:Hp) (Q:VK) (E':XK):Prop
 |mk (b:Addr) (Ld st:Int):vs=[.ref b]->Bag H b Ld st->(∀z Km,0<=z->0<=Km->Q (.int z) (upd H b (.lst [.int Ld, .int Km])))->spMixed vs H Q E'
inductive spDigit (vs:List V) (H:Hp) (Q:VK) (E':XK):Prop
 |mk (b:Addr) (LV Ld st:Int):vs=[.ref b, .int LV]->Bag H b Ld st->0<=Ld->0<=st->0<LV->LV<=10^60->(∀z far' Km,0<=z->z<LV->0<=far'->0<=Km->Q (.int z) (upd H b (.lst [.int far', .int Km])))->spDigit vs H Q E'
def But (b:OZ) (H H':Hp):Prop:=∀c o,H c=some o->c≠b->H' c=some o
theorem Il {z:Int} (h0:0<z) (h1:z<=10^60):z≠0/\z.natAbs<2^512:=by
 have:(10:Nat)^60<2^512:=by decide
 constructor<;>lia
def But.of_same {b:OZ}(s:ae H H'):But b H H':=fun c o e _=>s _ _ e
def But.trans {b:OZ}(s:But b H H') (t:But b H' H''):But b H H'':=fun c o e n=>t c o (s c o e n) n
theorem But.upd {b:OZ}{H:Hp}{o:HO}:But b H (L2.upd H b o):=fun c u e n=>by rw[ax n];exact e
theorem But.same {b:OZ}{H1:Hp} (s:ae H H1) (nb:H b=none) (t:But b H1 H2):ae H H2:=fun c o e=>t c o (s c o e) (by rintro rfl;rw[nb] at e;cases e)
inductive sp_law (K:W.Frag) (vs:List V) (H:Hp) (Q:VK) (E':XK):Prop
 |mk (a:Addr) (ns:List Int):vs=[.ref a]->SqL K H a (ns.map V.int)->ns.length<=63->(∀H',Q (.bl true) H')->sp_law K vs H Q E'
theorem pi :b8 vs none (some (k:Int))=vs.take k:=by
 unfold b8;rw[HT.sIx_nat,HT.sIx_none,DR,Nat.sub_zero];exact List.take_eq_take_iff.mpr (by lia)
inductive spAskD (K:W.Frag) (vs:List V) (H:Hp) (Q:VK) (E':XK):Prop
 |mk (a:Addr) (ns:List Int):vs=[.ref a]->SqL K H a (ns.map V.int)->(∀(d k:Nat) (t:Addr) (H':Hp),ae H H'->Wide d k->H' t=some (.tup [.int d, .int k])->Q (.ref t) H')->spAskD K vs H Q E'
def stD (x:O4 Lf×Int):D:= .t [lfs x.1, .i x.2]
def Lok (p:Lf):Prop:=0<=p.2.1-p.1/\p.2.1-p.1<=10/\1<=p.2.2/\p.2.2<=20
inductive spBetQ (vs:List V) (H:Hp) (Q:VK) (E':XK):Prop
 |mk (i lo hi:Int):vs=[.int i, .int lo, .int hi]->lo<=i->i<=hi->Q .non H->spBetQ vs H Q E'
inductive spDegQ (vs:List V) (H:Hp) (Q:VK) (E':XK):Prop
 |mk (i:Int):vs=[.int i]->1<=i->i<=5->Q .non H->spDegQ vs H Q E'
inductive spWidQ (vs:List V) (H:Hp) (Q:VK) (E':XK):Prop
 |mk (d k:Nat):vs=[.int d, .int k]->Wide d k->Q .non H->spWidQ vs H Q E'
inductive spEndQ (vs:List V) (H:Hp) (Q:VK) (E':XK):Prop
 |mk (n:Nat) (dv:V) (ps:List Lf):vs=[.int n,dv]->1<=n->n<=5->Is H (lfs ps) dv->((∀p∈ps,Okl n p))->(∀l H',ae H H'->H l=none->H' l=some (.lst ((bI n ps).map V.int))->Q (.ref l) H')->spEndQ vs H Q E'
inductive spLost (vs:List V) (H:Hp) (Q:VK) (E':XK):Prop
 |mk (v:V) (p:Lf):vs=[v]->Is H (lf p) v->Lok p->Q (.int (aV p)) H->spLost vs H Q E'
inductive spLfr (vs:List V) (H:Hp) (Q:VK) (E':XK):Prop
 |mk (d f n:Nat) (sp:Int):vs=[.int d, .int f, .int n, .int sp]->f<=d->d<=5->n<=20->(∀l H',ae H H'->H l=none->Is H' (lfs (cY f (d-f) n sp)) (.ref l)->Q (.ref l) H')->spLfr vs H Q E'
inductive spLeav (n:Nat) (E':W.Frag) (vs:List V) (H:Hp) (Q:VK) (E2:XK):Prop
 |mk (v:V) (ls:List Lf) (wt sp:Int):vs=[v, .int wt, .int sp]->Is H (lfs ls) v->((∀p∈ls,Lok p))->0<=wt->wt<n->(cu n ls wt sp).length<=1000->ls.length<=200->n<=100->(∀l H',ae H H'->H l=none->Is (nw H H') (.l ((cu n ls wt sp).map lfs)) (.ref l)->Q (.ref l) H')->spLeav n E' vs H Q E2
inductive spWith (vs:List V) (H:Hp) (Q:VK) (E':XK):Prop
 |mk (d f:Nat) (v:V) (x:List Lf×Int):vs=[.int d, .int ((f+1:Nat):Int),v, .int x.2]->f<d->d<=5->Is H (lfs x.1) v->stB d f x=true->(∀l H',ae H H'->H l=none->Is (nw H H') (.l ((dG d (f+1) x.1 x.2).map stD)) (.ref l)->Q (.ref l) H')->spWith vs H Q E'
theorem vz {n:String}:W.kitOne K (.type n) (.type n)=some true:=by
 unfold W.kitOne;simp
theorem vA {H:Hp}{Wq:O4 (O4 Lf)}{vs:O4 V} (h:Iss H (Wq.map lfs) vs):∀(l:O4 Nat),(∀i∈l,i<Wq.length)->Iss H ((l.map fun i=>Wq.getD i []).map lfs) (l.map fun i=>vs.getD i .non)
 |[],_=>ap
 |i::l,hl=>by
  have hi:i<Wq.length:=hl i (by simp);have hr:i<vs.length:=by rw[h.length,A1];exact hi
  refine am ?_ (vA h l fun j hj=>hl j (by simp[hj]));obtain⟨d,hd,h1⟩:=h.of_get (A2 hr);rw[AF,A2 hi] at hd;cases hd;show Is H (lfs (Wq.getD i [])) (vs.getD i .non);rw[A7,A7,A2 hi,A2 hr];exact h1
theorem vB {x:O4 Lf×Int}(h:Is H (stD x) v):∃t u,v= .ref t/\H t=some (.tup [u, .int x.2])/\Is H (lfs x.1) u:=by
 obtain⟨t,vs,rfl,ht,hi⟩:=bH h;obtain⟨u,us,rfl,h1,h2⟩:=aQ hi;obtain⟨u2,us2,rfl,h3,h4⟩:=aQ h2;rw[az h3,bp h4] at ht;exact⟨t,u,rfl,ht,h1⟩
theorem Im {ps:O4 Lf}:∀x∈ps.map bx,x.length=3:=fun x hx=>by
 obtain⟨p,_,rfl⟩:=Af.mp hx;rfl
theorem pq (k:But a H H'):ae (hid H a) H':=fun b o e=>by
 have hb:b≠a:=by rintro rfl;rw[zi] at e;cases e
 rw[dX hb] at e;exact k _ _ e hb
theorem jg (h:i<=vs.length):b8 vs (some (i:Int)) none=vs.drop i:=by
 unfold b8;rw[HT.sIx_nat,HT.sIx_none,Nat.min_eq_left h,Ct (by simp)]
def Snd.good {ps:O4 Lf} (h:Snd d ps):gN d ps:=⟨h.ok,h.nn⟩
theorem Snd.okl {d:Nat}{ps:O4 Lf} (h:Snd d ps):∀p∈ps,Okl d p:=h.good.okl
def Io (h:∀i:Nat,0<=ns.getD i 0):0<=iK ns:=h _
theorem Snd.ends {ps:O4 Lf} (h:Snd d ps) (i:Nat):0<=(bI d ps).getD i 0:=by
 rcases C4 i d with c|c
 .rw [GD h.okl c];exact h.nn i c
 .rw [A7,List.getElem?_eq_none (by rw[kt d ps h.okl];exact c)];exact CJ _
inductive spSou (vs:List V) (H:Hp) (Q:VK) (E':XK):Prop
 |mk (n:Nat) (dv:V) (ps:List Lf):vs=[.int n,dv]->1<=n->n<=5->Is H (lfs ps) dv->Snd n ps->(∀H',ae H H'->Q (.bl true) H')->spSou vs H Q E'
inductive spNeS (vs:List V) (H:Hp) (Q:VK) (E':XK):Prop
 |mk (n:Nat) (dv:V) (ps:List Lf):vs=[.int n,dv]->1<=n->n<=5->Is H (lfs ps) dv->Snd n ps->(∀H',ae H H'->Q .non H')->spNeS vs H Q E'
inductive spEnM (vs:List V) (H:Hp) (Q:VK) (E':XK):Prop
 |mk (n:Nat) (dv:V) (ps:List Lf):vs=[.int n,dv]->1<=n->n<=5->Is H (lfs ps) dv->Snd n ps->(ff n (bI n ps)).length<=20->(∀l H',ae H H'->H l=none->Is H' (lfs (ff n (bI n ps))) (.ref l)->Q (.ref l) H')->spEnM vs H Q E'
theorem vC {l:OZ}{qs:O4 Lf}(s:ae H H') (hl:H l=some (.lst xs)) (h:Iss H (qs.map lf) vs):Iss (upd H' l o) (qs.map lf) vs:=
 fb (fun a ys e=>by rw[ax (by rintro rfl;rw[hl] at e;cases e)];exact s _ _ e) h
theorem Ip {p q:Lf}(h:Is H (lf p) v) (k:Is H (lf q) v):p=q:=by
 obtain⟨a,rfl,ha⟩:=eY h;obtain⟨b,e,hb⟩:=eY k;cases e;rw[ha] at hb;obtain⟨a1,a2,a3⟩:=p;obtain⟨b1,b2,b3⟩:=q;simp at hb;simp[hb]
theorem Iq {wt:O4 Lf}{m:Lf}(h:Iss H (wt.map lf) NF) (k:Is H (lf m) v):zS K H 1 NF v (fun j=>decide (wt.getD j (0,0,0)=m)):=by
 have bU:∀(j:Nat) z,NF[j]? =some z->Is H (lf (wt.getD j (0,0,0))) z:=fun j z hz=>by
  obtain⟨d',Ll,h1⟩:=bd h hz;rw[List.getD,Ll];exact h1
 refine⟨by decide,fun j z hz=>⟨?_,ur (bU j z hz) k⟩,fun i j z hi hj=> ?_⟩
 .obtain⟨a,e,_⟩:=eY (bU j z hz);exact⟨a,e⟩
 .show decide (wt.getD i (0,0,0)=m)=decide (wt.getD j (0,0,0)=m);rw[Ip (bU i z hi) (bU j z hj)]
def ti (t:O4 Int):D:=tI t
inductive spCho (vs:List V) (H:Hp) (Q:VK) (E':XK):Prop
 |mk (n:Int) (k:Nat):vs=[.int n, .int k]->(k:Int)<=n->n<=15->Q (.int (chF n k)) H->spCho vs H Q E'
inductive spWm (vs:List V) (H:Hp) (Q:VK) (E':XK):Prop
 |mk (v:V) (t:List Int) (p:Nat) (m:Int):vs=[v, .int p, .int m]->Is H (tI t) v->p<t.length->t.length<=5->(∀u H',ae H H'->Is H' (tI (wmF t p m)) u->Q u H')->spWm vs H Q E'
def Ir (t:O4 Int) (a:Nat):Prop:=t.length<=5/\(∀i:Nat,0<=t.getD i 0)/\t.sum+(a:Int)<=15
inductive spPB (n:Nat) (E':W.Frag) (vs:List V) (H:Hp) (Q:VK) (E2:XK):Prop
 |mk (v:V) (t:List Int) (p g a:Nat):vs=[v, .int p, .int ((p:Int)+(g:Int)), .int a]->Is H (tI t) v->g<n->n<=6->p+g<t.length->Ir t a->(∀l H',ae H H'->H l=none->Is H' (.l ((pbF g t p a).map prD)) (.ref l)->Q (.ref l) H')->spPB n E' vs H Q E2
def pz (d:Nat) (mk:O4 Lf):Prop:=(∀m∈mk,1<=m.1/\m.1<m.2.1/\m.2.1<=(d:Int)+1)/\mk.length<=15
inductive spHMO (vs:List V) (H:Hp) (Q:VK) (E':XK):Prop
 |mk (d:Nat) (v:V) (mk:List Lf):vs=[.int d,v]->1<=d->d<=5->Is H (lfs mk) v->pz d mk->ssB (mk.map bx)=true->(∀H',ae H H'->Q (.int (hmF d mk)) H')->spHMO vs H Q E'
theorem Iu {x:O4 Lf} (h:mkB d x=true):pz d (x++ff d (bI d x))/\ssB (mkD d x)=true:=by
 unfold mkB at h;simp only[A9,AU,AS] at h;exact⟨⟨fun m hm=>⟨(h.1.1 m hm).1.1,(h.1.1 m hm).1.2,(h.1.1 m hm).2⟩,h.1.2⟩,h.2⟩
inductive spHM (vs:List V) (H:Hp) (Q:VK) (E':XK):Prop
 |mk (d:Nat) (v:V) (ps:List Lf):vs=[.int d,v]->1<=d->d<=5->Is H (lfs ps) v->Snd d ps->mkB d ps=true->(∀H',ae H H'->Q (.int (hmF d (ps++ff d (bI d ps)))) H')->spHM vs H Q E'
theorem Iw {t:O4 Int}(H':Hp) (vs:O4 V) (h:Iss H' (t.map .i) vs):Iss H' ((t.take p).map .i) (b8 vs none (some (p:Int))):=by
 rw[pi,List.map_take];exact h.take p
theorem Ix {t:O4 Int}(hp:p<=t.length) (H':Hp) (vs:O4 V) (h:Iss H' (t.map .i) vs):Iss H' ((t.drop p).map .i) (b8 vs (some (p:Int)) none):=by
 rw[jg (by rw[h.length,A1];exact hp),D9];exact h.drop p
theorem vD:∀{g:Nat}{t:O4 Int}{p a:Nat},(pbF g t p a).length<=(a+1)^g
 |0,t,p,a=>by simp[pbF]
 |g+1,t,p,a=>by
  have go:∀n,n<=a+1->((List.range n).flatMap fun h:Nat=>(pbF g (wmF t p (h:Int)) (p+1) (a-h)).map fun x=>(x.1,chF (t.getD p 0+(h:Int)) h*x.2)).length<=n*(a+1)^g:=by
   intro n hn;induction n with
   |zero=>simp
   |succ n ih=>
    rw[cQ,A',A1];have h1:=ih (by lia);have h2:=vD (g:=g) (t:=wmF t p (n:Int)) (p:=p+1) (a:=a-n);have h3:(a-n+1)^g<=(a+1)^g:=Nat.pow_le_pow_left (by lia) g;rw[CH];lia
  have:=go (a+1) (AB _);rw[Cs,Nat.mul_comm];exact this
theorem Iy {g:Nat}{t:O4 Int}{a:Nat} (hg:g<=5) (ha:a<=15):(pbF g t p a).length<=1048576:=by
 have h1:=vD (g:=g) (t:=t) (p:=p) (a:=a);have h2:(a+1)^g<=16^g:=Nat.pow_le_pow_left (by lia) g;have h3:16^g<=16^5:=Bw (by decide) hg;lia
theorem jh (h:n<=1048576):n<sizeLine:=by rw[Av];lia
def pA {t:OZ}{u:V} (h:H t=some (.tup [u, .int x.2])) (k:Is H (tI x.1) u):Is H (prD x) (.ref t):=bw h (am k (am bv ap))
theorem pB (h:Is H (prD x) v):∃t u,v= .ref t/\H t=some (.tup [u, .int x.2])/\Is H (tI x.1) u:=by
 obtain⟨t,vs,rfl,ht,hi⟩:=bH h;obtain⟨u1,us,rfl,KR,hi⟩:=aQ hi;obtain⟨u2,us,rfl,Lj,hi⟩:=aQ hi;rw[bp hi,az Lj] at ht;exact⟨t,u1,rfl,ht,KR⟩
theorem pC (s:ay H H') {t:O4 Int}(h:Is H (tI t) v):Is H' (tI t) v:=by
 obtain⟨a,rfl,ha⟩:=bM h;exact eS (s _ _ ha)
theorem kS (s:ay H H') (h:Is H (prD x) v):Is H' (prD x) v:=by
 obtain⟨a,u,rfl,ha,hu⟩:=pB h;exact pA (s _ _ ha) (pC s hu)
theorem vE {H H':Hp} (s:ay H H'):∀{xs:O4 (O4 Int×Int)}{vs:O4 V},Iss H (xs.map prD) vs->Iss H' (xs.map prD) vs
 |[],_,h=>by rw[bp h];exact ap
 |x::xs,_,h=>by
  obtain⟨u,us,rfl,q,r⟩:=aQ h;exact am (kS s q) (vE s r)
theorem Iz {r:O4 Nat}{t:O4 Int}(h:∀i:Nat,0<=t.getD i 0) (hs:t.sum+(r.sum:Nat)<=15) (hl:r.length<=5): -(2^64)<cc t p r/\cc t p r<2^64:=by
 obtain⟨a,b⟩:=uI (p:=p) h hs;have:(6435:Int)^r.length<=6435^5:=by
  have:r.length=0\/r.length=1\/r.length=2\/r.length=3\/r.length=4\/r.length=5:=by lia
  rcases this with e|e|e|e|e|e<;>rw[e]<;>decide
 lia
theorem IA {wt:O4 Lf}{m:Lf}(h:Iss H (wt.map lf) NF) (k:Is H (lf m) v):ma K H 1 NF v (fun j=>decide (wt.getD j (0,0,0)=m)):=by
 obtain⟨a,b,c⟩:=Iq (K:=K) h k;exact⟨a,fun j z hz=>⟨(b j z hz).1,(b j z hz).2.told⟩,c⟩
theorem IB (xs:O4 Lf):(c7 xs).Nodup:=(ox xs).imp fun{a b} h e=>by subst e;exact ky h
theorem vG {α β:Type} (f:β->α->β) (b:β) (xs:O4 α) (j:Nat) (x:α) (h:xs[j]? =some x):(xs.take (j+1)).foldl f b=f ((xs.take j).foldl f b) x:=by
 rw[AN,h,CV];rfl
theorem IC (cnt:Lf->Nat) (m:Lf) (ms:O4 Lf):TF cnt (m::ms)=g7 (TF cnt ms) (m.1-1).toNat (spR (m.2.1-m.1-1).toNat (cnt m)):=by funext t;rfl
def ID {rs:O4 (O4 Nat)}{D:Tab}{acc:Tab} (h:D[j]? =some x):stP p rs (D.take (j+1)) acc=inP x.1 x.2 p rs (stP p rs (D.take j) acc):=vG _ _ D j x h
def IE {d:OZ}{Kb:O4 (O4 Key×V)}(h:H d=some (.dT Kb)):ay H (upd H d o):=(LTS.dict h).2
theorem pD {κ:Type} [DecidableEq κ] {k:κ}:∀{R:O4 (κ×Int)},k∈R.map (·.1)->(k,dz R k)∈R
 |[],h=>nomatch h
 |(a,b)::r,h=>by
  unfold dz;by_cases e:a=k
  .rw [A8 e,e];exact AH
  .rw [A6 e];rw[AK,AJ] at h;exact AL _ (pD (h.resolve_left fun z=>e z.symm))
theorem pE {κ:Type} [DecidableEq κ] {k:κ}{v:Int}:∀{R:O4 (κ×Int)},dz (ck R k v) k=v/\k∈(ck R k v).map (·.1)
 |[]=>by simp[ck,dz]
 |(a,b)::r=>by
  obtain⟨h1,h2⟩:=pE (k:=k) (v:=v) (R:=r);unfold ck;by_cases e:a=k
  .rw [A8 e];exact⟨A8 e,by rw[AK,e];exact AH⟩
  .rw [A6 e];exact⟨by unfold dz;rw[A6 e];exact h1,by rw[AK];exact AL _ h2⟩
def rwL (t:O4 Int):D:= .l (t.map .i)
def qD (q:Ask4):D:= .t [.i q.d, .i q.k,tI q.h,tI q.f]
def smD (x:Sm4):D:= .t [.i x.1,rwL x.2.1,qD x.2.2]
def kq (q:Ask4):O4 (Mx Int):=[.inl q.d, .inl q.k, .inr q.h, .inr q.f]
theorem IF {r:Ask4} (h:kq q=kq r):q=r:=by
 obtain⟨a,b,c,d⟩:=q;obtain⟨a',b',c',d'⟩:=r;unfold kq at h;simp only[CF,Sum.inl.injEq,Sum.inr.injEq,and_true] at h;obtain⟨rfl,rfl,rfl,rfl⟩:=h;rfl
def pF (h:Is H (qD q) v):IsK H (kq q) v:=⟨rfl,h⟩
theorem ig {t:O4 Int}(h:Is H (rwL t) v):∃a,v= .ref a/\H a=some (.lst (t.map V.int)):=by
 obtain⟨a,vs,rfl,ha,hi⟩:=aB h;rw[jM hi] at ha;exact⟨a,rfl,ha⟩
def ji {t:O4 Int}(h:H a=some (.lst (t.map V.int))):Is H (rwL t) (.ref a):=aD h (lK t)
theorem vH {H0:Hp}{t:O4 Int}(n:H0 a=none) (h:Is H (rwL t) (.ref a)):Is (nw H0 H) (rwL t) (.ref a):=by
 obtain⟨_,e,ha⟩:=ig h;cases e;exact ji (by rw[bV n];exact ha)
theorem fG (t:ay H H') {xs:O4 Int}(h:Is H (tI xs) v):Is H' (tI xs) v:=by
 obtain⟨a,rfl,ha⟩:=bM h;exact eS (t _ _ ha)
theorem ii {H H':Hp} (t:ay H H'):∀{ts:O4 (O4 Int)}{vs:O4 V},Iss H (ts.map tI) vs->Iss H' (ts.map tI) vs
 |[],_,h=>by rw[bp h];exact ap
 |p::ps,_,h=>by
  obtain⟨u,us,rfl,h1,h2⟩:=aQ h;exact am (fG t h1) (ii t h2)
theorem vI (t:ay H H') (h:Is H (qD q) v):Is H' (qD q) v:=by
 obtain⟨a,vs,rfl,ha,hi⟩:=bH h;obtain⟨u1,us,rfl,h1,hi⟩:=aQ hi;obtain⟨u2,us,rfl,h2,hi⟩:=aQ hi;obtain⟨u3,us,rfl,h3,hi⟩:=aQ hi;obtain⟨u4,us,rfl,h4,hi⟩:=aQ hi;rw[bp hi,az h1,az h2] at ha;exact bw (t _ _ ha) (am bv (am bv (am (fG t h3) (am (fG t h4) ap))))
def eI (t:O4 Int):Prop:=Nn t/\t.length<=5/\(t=[]\/∃s x,t=s++[x]/\0<x)
inductive spIsR (vs:List V) (H:Hp) (Q:VK) (E':XK):Prop
 |mk (v:V) (t:List Int):vs=[v]->Is H (rwL t) v->eI t->Q (.bl true) H->spIsR vs H Q E'
inductive spRwL (vs:List V) (H:Hp) (Q:VK) (E':XK):Prop
 |mk (v:V) (t:List Int):vs=[v]->Is H (rwL t) v->t.length<=5->(∀H',ae H H'->Q (.int (wtF t)) H')->spRwL vs H Q E'
inductive spRwT (vs:List V) (H:Hp) (Q:VK) (E':XK):Prop
 |mk (v:V) (t:List Int):vs=[v]->Is H (tI t) v->t.length<=5->(∀H',ae H H'->Q (.int (wtF t)) H')->spRwT vs H Q E'
inductive spNeR (vs:List V) (H:Hp) (Q:VK) (E':XK):Prop
 |mk (d:Int) (v1 v2:V) (a b:List Int):vs=[.int d,v1,v2]->Is H (rwL a) v1->Is H (rwL b) v2->eI a->eI b->wtF a+wtF b=d->(∀H',ae H H'->Q .non H')->spNeR vs H Q E'
inductive spPrd (vs:List V) (H:Hp) (Q:VK) (E':XK):Prop
 |mk (v:V) (ws:List Int):vs=[v]->Is H (rwL ws) v->((∀w∈ws,1<=w/\w<=5))->Q (.int (cx ws)) H->spPrd vs H Q E'
inductive spFil (vs:List V) (H:Hp) (Q:VK) (E':XK):Prop
 |mk (v:V) (t:List Int) (n:Nat):vs=[v, .int n]->Is H (rwL t) v->t.length<=n->n<=5->(∀u H',ae H H'->Is H' (tI (bW n t)) u->Q u H')->spFil vs H Q E'
inductive spRwn (vs:List V) (H:Hp) (Q:VK) (E':XK):Prop
 |mk (v:V) (t:List Int):vs=[v]->Is H (tI t) v->Nn t->t.sum<=5->t.length<=5->(∀l H',ae H H'->H l=none->Is H' (.l ((rwF t).map tI)) (.ref l)->Q (.ref l) H')->spRwn vs H Q E'
inductive spRby (n:Nat) (E':W.Frag) (vs:List V) (H:Hp) (Q:VK) (E2:XK):Prop
 |mk (v:V) (t:List Int) (wt:Int) (fi:Nat):vs=[v, .int wt, .int fi]->Is H (tI t) v->Nn t->t.length<=5->(wt-wtF t).toNat+1<=n->n<=8->-1000<=wt->wt<=1000->-1000<=wtF t->wtF t<=1000->fi<=5->(∀l H',ae H H'->H l=none->Is H' (.l ((rbF n t wt fi).map tI)) (.ref l)->Q (.ref l) H')->spRby n E' vs H Q E2
inductive spChs (vs:List V) (H:Hp) (Q:VK) (E':XK):Prop
 |mk (v1 v2:V) (b a:List Int):vs=[v1,v2]->Is H (tI b) v1->Is H (tI a) v2->Le a b->b.sum<=5->(∀H',ae H H'->Q (.int (cw b a)) H')->spChs vs H Q E'
inductive spWgn (vs:List V) (H:Hp) (Q:VK) (E':XK):Prop
 |mk (v1 v2:V) (f fr:List Int):vs=[v1,v2]->Is H (tI f) v1->Is H (tI fr) v2->Le f fr->fr.length<=5->fr.sum<=5->(∀l H',ae H H'->H l=none->Is H' (rwL (wgF f fr)) (.ref l)->Q (.ref l) H')->spWgn vs H Q E'
inductive spOne (g:Ask4->List Sm4) (vs:List V) (H:Hp) (Q:VK) (E':XK):Prop
 |mk (v1 v2:V) (q:Ask4) (L:Nat):vs=[.int q.d, .int q.k,v1,v2]->Is H (tI q.h) v1->Is H (tI q.f) v2->AskOk L q->2<=q.d->(∀l H',ae H H'->H l=none->Is (nw H H') (.l ((g q).map smD)) (.ref l)->Q (.ref l) H')->spOne g vs H Q E'
inductive spSms (vs:List V) (H:Hp) (Q:VK) (E':XK):Prop
 |mk (v:V) (q:Ask4) (L:Nat):vs=[v]->Is H (qD q) v->AskOk L q->2<=q.d->(∀l H',ae H H'->H l=none->Is (nw H H') (.l ((eD q).map smD)) (.ref l)->Q (.ref l) H')->spSms vs H Q E'
theorem pG:∀{a b:O4 Int}{k:Int},Le a b->((wgG k a b).length:Int)=b.sum-a.sum
 |[],[],_,_=>rfl
 |x::a,y::b,k,h=>by
  show((List.replicate (y-x).toNat k++wgG (k+1) a b).length:Int)=_;have:=pG (k:=k+1) h.2.2;have h1:=h.2.1;rw[A',B2,Aj,Aj];lia
theorem vJ:∀{a b:O4 Int}{k:Int},Le a b->∀w∈wgG k a b,k<=w/\w<k+a.length
 |[],[],_,_,w,h=>nomatch h
 |x::a,y::b,k,h,w,hw=>by
  rcases BI.mp (show w∈List.replicate (y-x).toNat k++wgG (k+1) a b from hw) with hw|hw
  .have:=List.eq_of_mem_replicate hw;rw[Ad];lia
  .have:=vJ h.2.2 w hw;rw[Ad];lia
def KnQ (L:Nat) (R:O4 (O4 (Mx Int)×Int)):Prop:=(R.map (·.1)).Nodup/\∀x∈R,∃q,AskOk L q/\0<=q.k/\x=(kq q,cF q)
def IG (L:Nat):O4 (O4 (Mx Int)):=(List.range 6).flatMap fun d:Nat=>(List.range 7).flatMap fun k:Nat=>(dw 1 L 5).flatMap fun h=>(dw 1 L 5).map fun f=>kq ⟨(d:Int),(k:Int),h,f⟩
theorem jk {α β:Type}{g:α->O4 β}{m:Nat}:∀{xs:O4 α},(∀x∈xs,(g x).length<=m)->(xs.flatMap g).length<=xs.length*m
 |[],_=>AQ _
 |x::xs,h=>by
  rw[BZ,A',Ad,CH];have:=jk (xs:=xs) fun y hy=>h y (AL _ hy);have:=h x AH;lia
theorem IH (h:L<=5):(IG L).length<=15162:=by
 have r:(dw 1 L 5).length<=19:=by
  have h1:=G4;unfold uZ at h1;rw[AS] at h1;simpa using h1 L (AW.mpr (by lia))
 have e1:∀(d k:Nat) (h':O4 Int),((dw 1 L 5).map fun f=>kq ⟨(d:Int),(k:Int),h',f⟩).length<=19:=fun d k h'=>by rw[A1];exact r
 have e2:∀(d k:Nat),((dw 1 L 5).flatMap fun h=>(dw 1 L 5).map fun f=>kq ⟨(d:Int),(k:Int),h,f⟩).length<=361:=fun d k=>B7 (jk fun h' _=>e1 d k h') (by lia);have e3:∀d:Nat,((List.range 7).flatMap fun k:Nat=>(dw 1 L 5).flatMap fun h=>(dw 1 L 5).map fun f=>kq ⟨(d:Int),(k:Int),h,f⟩).length<=2527:=fun d=>by
  have:=jk (xs:=List.range 7) (m:=361) fun k _=>e2 d k;rw[BK] at this;exact this
 have:=jk (xs:=List.range 6) (m:=2527) fun d _=>e3 d;rw[BK] at this;exact this
theorem II {ks:O4 (O4 (Mx Int))} (nd:ks.Nodup) (h:∀x∈ks,∃q,AskOk L q/\0<=q.k/\x=kq q) (h5:L<=5):ks.length<=15162:=by
 refine B7 (kM nd fun x hx=> ?_) (IH h5);obtain⟨q,a,k0,rfl⟩:=h x hx;have wh:=dJ (i:=1) (by decide) a.hn;have wf:=dJ (i:=1) (by decide) a.fn;have w:=a.wt;have d1:=a.d1;have dL:=a.dL;have k6:=a.k6;unfold wtF at w;refine BJ.mpr ⟨q.d.toNat,AW.mpr (by lia),BJ.mpr ⟨q.k.toNat,AW.mpr (by lia),BJ.mpr ⟨q.h,oJ (by decide) a.hl a.hn (by show wtG 1 q.h<=5;lia),Af.mpr ⟨q.f,oJ (by decide) a.fl a.fn (by show wtG 1 q.f<=5;lia), ?_⟩⟩⟩⟩;show kq ⟨((q.d.toNat:Nat):Int),((q.k.toNat:Nat):Int),q.h,q.f⟩=kq q;rw[show((q.d.toNat:Nat):Int)=q.d by lia,show((q.k.toNat:Nat):Int)=q.k by lia]
theorem KnQ.len {R:O4 (O4 (Mx Int)×Int)} (h:KnQ L R) (h5:L<=5):R.length<=15162:=by
 rw[<-A1 (f:=(·.1))];refine II h.1 (fun x hx=> ?_) h5;obtain⟨y,hy,rfl⟩:=Af.mp hx;obtain⟨q,a,k0,rfl⟩:=h.2 y hy;exact⟨q,a,k0,rfl⟩
theorem KnQ.get {L:Nat}{R:O4 (O4 (Mx Int)×Int)} (h:KnQ L R) {q:Ask4} (hk:kq q∈R.map (·.1)):dz R (kq q)=cF q:=by
 obtain⟨r,_,_,e⟩:=h.2 _ (pD hk);simp only[D8] at e;rw[e.2,IF e.1]
def KnQ.put {R:O4 (O4 (Mx Int)×Int)} (h:KnQ L R) (a:AskOk L q) (k0:0<=q.k):KnQ L (ck R (kq q) (cF q)):=
 ⟨vm h.1,fun x hx=>(oS hx).elim (fun hx=>h.2 x hx) fun e=>⟨q,a,k0,e⟩⟩
theorem pH {Kb:O4 (O4 (Mx Int)×V)} (d:DM P w H a Kb) (k:But a H H'):LTS H H':=by
 obtain⟨_,_,xs,_,e⟩:=d;exact⟨fun b ys h=>k _ _ h (by rintro rfl;rw[e] at h;cases h),fun b ys h=>k _ _ h (by rintro rfl;rw[e] at h;cases h)⟩
inductive spCnt (P:Program) (w:World) (n:Nat) (vs:List V) (H:Hp) (Q:VK) (E':XK):Prop
 |mk (v:V) (kn:Addr) (q:Ask4) (L:Nat) (R:List (List (Mx Int)×Int)):vs=[v, .ref kn]->Is H (qD q) v->AskOk L q->muF q+1<=(n:Int)->DM P w H kn (tK R)->KnQ L R->(∀R' H',But kn H H'->DM P w H' kn (tK R')->KnQ L R'->Q (.int (cF q)) H')->spCnt P w n vs H Q E'
inductive spAsk (vs:List V) (H:Hp) (Q:VK) (E':XK):Prop
 |mk (d k:Nat) (v1 v2:V) (a b:List Int):vs=[.int d, .int k,v1,v2]->Wide d k->Is H (rwL a) v1->Is H (rwL b) v2->eI a->eI b->wtF a+wtF b=d->a.length<=d->b.length<=d->(∀u H',ae H H'->Is H' (qD ⟨d,k,bW d a,bW d b⟩) u->Q u H')->spAsk vs H Q E'
inductive spByE (vs:List V) (H:Hp) (Q:VK) (E':XK):Prop
 |mk (d k:Nat) (v1 v2:V) (a b:List Int):vs=[.int d, .int k,v1,v2]->Wide d k->Is H (rwL a) v1->Is H (rwL b) v2->eI a->eI b->wtF a+wtF b=d->a.length<=d->b.length<=d->(∀H',ae H H'->Q (.int (cF ⟨d,k,bW d a,bW d b⟩)) H')->spByE vs H Q E'
theorem IJ (a:AskOk L q) (d2:2<=q.d) {x:Sm4} (hx:x∈eD q):(0<=x.1/\x.1<=1024)/\(∀w∈x.2.1,1<=w/\w<=5)/\x.2.1.length<=5:=by
 unfold eD at hx;rcases BI.mp hx with hx|hx
 .obtain⟨_,_,e1,w,e2,w1,w5⟩:=a.held hx;rw[e1,e2];exact⟨⟨by decide,by decide⟩,fun y hy=>by rw[AY.mp hy];exact⟨w1,w5⟩,by simp⟩
 .obtain⟨kp,hk,fr,hf,rfl⟩:=uW hx;obtain⟨_,_,l1,l2,f5⟩:=a.few d2 hk hf;have c1:=kH l1 a.sums.2.1;have c2:=kH l2 f5;have m1:=By c1.1 c2.1;have m2:=CZ c1.2 c2.2 c2.1 (by decide);refine⟨⟨m1,by show _*_<=1024;lia⟩,fun w hw=> ?_, ?_⟩
  .have:=vJ (k:=1) l2 w hw;have:=a.fl;have:=a.L5;lia
  .have:=pG (k:=1) l2;have:=a.sums;show(wgG 1 q.f fr).length<=5;lia
theorem vK:∀{ws:O4 Int},(∀w∈ws,1<=w/\w<=5)->0<=cx ws/\cx ws<=5^ws.length
 |[],_=>by simp[cx]
 |w::ws,h=>by
  obtain⟨h1,h2⟩:=vK fun x hx=>h x (AL _ hx);obtain⟨w1,w5⟩:=h w AH;rw[show w::ws=[w]++ws from rfl,G5,show cx [w]=w by show 1*w=w;lia];refine⟨By (by lia) h1, ?_⟩;rw[A',Int.pow_add];exact CZ w5 h2 h1 (Int.pow_nonneg (by decide))
inductive spWorth (vs:List V) (H:Hp) (Q:VK) (E':XK):Prop
 |mk (dv:V) (ps:List Lf) (d:Nat):vs=[dv]->Is H (lfs ps) dv->((∀p∈ps,True/\1<=p.2.2/\p.2.2<=2^20))->Q (.int (c8 ps)) H->spWorth vs H Q E'
inductive spCtF (f:Nat->Nat->Int) (vs:List V) (H:Hp) (Q:VK) (E':XK):Prop
 |mk (d k:Nat):vs=[.int d, .int k]->Wide d k->(∀H',ae H H'->Q (.int (f d k)) H')->spCtF f vs H Q E'
inductive spLen (vs:List V) (H:Hp) (Q:VK) (E':XK):Prop
 |mk (v:V) (ps:List Lf):vs=[v]->Is H (lfs ps) v->ps≠[]->ps.length<=20->(∀H',ae H H'->Q (.int (aP ps)) H')->spLen vs H Q E'
inductive spLoad (vs:List V) (H:Hp) (Q:VK) (E':XK):Prop
 |mk (v:V) (ps:List Lf) (j:Int):vs=[v, .int j]->Is H (lfs ps) v->ps.length<=20->(∀H',ae H H'->Q (.int (de ps j)) H')->spLoad vs H Q E'
inductive spLeast (vs:List V) (H:Hp) (Q:VK) (E':XK):Prop
 |mk (v:V) (ps:List Lf):vs=[v]->Is H (lfs ps) v->OkT ps->(∀H',ae H H'->Q (.int (dF (fk ps (aP ps).toNat))) H')->spLeast vs H Q E'
inductive spLong (vs:List V) (H:Hp) (Q:VK) (E':XK):Prop
 |mk (k:Nat):vs=[.int k]->k<=3->(∀l H',ae H H'->H l=none->Is H' (lfs (bS k (k+1))) (.ref l)->Q (.ref l) H')->spLong vs H Q E'
inductive spLos (n:Nat) (E':W.Frag) (vs:List V) (H:Hp) (Q:VK) (E2:XK):Prop
 |mk (v:V) (ls:List Lf) (k:Int):vs=[v, .int k]->Is H (lfs ls) v->((∀p∈ls,Lok p/\1<=aV p))->0<=k->k<n->(bY n ls k).length<=1000->ls.length<=200->n<=100->(∀l H',ae H H'->H l=none->Is (nw H H') (.l ((bY n ls k).map lfs)) (.ref l)->Q (.ref l) H')->spLos n E' vs H Q E2
inductive spLie (vs:List V) (H:Hp) (Q:VK) (E':XK):Prop
 |mk (v:V) (ps:List Lf) (n:Int):vs=[.int n,v]->Is H (lfs ps) v->ps.length<=20->(∀H',ae H H'->Q (.bl (gi n ps)) H')->spLie vs H Q E'
inductive spIsT (vs:List V) (H:Hp) (Q:VK) (E':XK):Prop
 |mk (v:V) (ps:List Lf):vs=[v]->Is H (lfs ps) v->ps.length<=20->ps≠[]->((∀p∈ps,1<=p.2.1/\p.2.1<=100))->(∀H',ae H H'->Q (.bl (dO ps)) H')->spIsT vs H Q E'
theorem pI:∀{n:Nat}{ls:O4 Lf}{k:Int}{x:O4 Lf},(∀p∈ls,1<=aV p)->x∈bY n ls k->x.length<=n/\∀p∈x,p∈ls
 |0,ls,k,x,_,h=>by rw[bY] at h;cases h
 |n+1,ls,k,x,hw,h=>by
  rw[o8] at h;split at h
  .rw [AY.mp h];exact⟨by simp,fun p hp=>nomatch hp⟩
  .obtain⟨i,hi,h⟩:=BJ.mp h;unfold df at h;split at h
   .cases h
   .rename_i p hp;split at h
    .obtain⟨r,hr,rfl⟩:=Af.mp h;obtain⟨a,d⟩:=pI (fun q hq=>hw q (Bj hq)) hr;refine⟨by rw[Ad];lia,fun q hq=> ?_⟩;rcases AJ.mp hq with rfl|hq
     .exact AV hp
     .exact Bj (d q hq)
    .cases h
theorem IL {k:Int}{x:O4 Lf} (hk:k≠0) (h:x∈bY n ls k):x≠[]:=by
 cases n with
 |zero=>rw[bY] at h;cases h
 |succ n=>
  rw[o8,A6 hk] at h;obtain⟨i,hi,h⟩:=BJ.mp h;unfold df at h;split at h
  .cases h
  .split at h
   .obtain⟨r,hr,rfl⟩:=Af.mp h;exact List.cons_ne_nil _ _
   .cases h
theorem pJ (i j:Int) (k n:Nat):fE i j k (n+1)=fE i j k n++(if 1<=aV (i,j,1+(n:Int))/\aV (i,j,1+(n:Int))<=(k:Int) then [(i,j,1+(n:Int))] else []):=by
 unfold fE;rw[B0,A5,BG];congr 1
 by_cases h1:1<=aV (i,j,1+(n:Int))
 .by_cases h2:aV (i,j,1+(n:Int))<=(k:Int)
  .rw [A8 ⟨h1,h2⟩];simp[h1,h2]
  .rw [A6 fun z=>h2 z.2];simp[h2]
 .rw [A6 fun z=>h1 z.1];simp[h1]
theorem pK (i j:Int) (k n:Nat):(fE i j k n).length<=n:=by
 unfold fE;exact B7 (Br _ _) (by simp)
theorem pM (i k:Nat):∀m,(dN i k m).length<=m*(k+1)
 |0=>by simp[dN]
 |m+1=>by
  unfold dN;rw[cQ,A',CH];have a:=pM i k m;unfold dN at a;have b:=pK (i:Int) ((i:Int)+1+(m:Int)) k (k+1);lia
theorem vL (k:Nat):∀n,(bS k n).length<=n*((k+1)*(k+1))
 |0=>by simp[bS]
 |n+1=>by
  unfold bS;rw[cQ,A',CH];have a:=vL k n;unfold bS at a;have b:=pM n k (k+1-n);have c:(k+1-n)*(k+1)<=(k+1)*(k+1):=DA _ (by lia);lia
theorem IM :ft 3 (gTup K 3 (gCons (bu 0) (gCons (bu 1) (gCons (bu 2) fJ)))):=by
 intro v σ H Q ⟨a,xs,e,hq,hl,x,r,ex,y,r2,er,z,r3,er3,en,q⟩;refine⟨a,xs,e,hq,hl,x,r,ex,y,r2,er,z,r3,er3,en,q, ?_,fun i hi=> ?_⟩
 .rw [BU,BU,BU]
 .rw [Bl (by lia),Bl (by lia),Bl (by lia)]
def IN :∀(σ:L2.St) (H:Hp) (R R':L2.St->Hp->Prop) (x:V),(∀σ' H',R σ' H'->R' σ' H')->gTup K 3 (gCons (bu 0) (gCons (bu 1) (gCons (bu 2) fJ))) x σ H R->gTup K 3 (gCons (bu 0) (gCons (bu 1) (gCons (bu 2) fJ))) x σ H R':=
 fun σ H R R' v k ⟨a,xs,e,hq,hl,x,r,ex,y,r2,er,z,r3,er3,en,q⟩=>⟨a,xs,e,hq,hl,x,r,ex,y,r2,er,z,r3,er3,en,k _ _ q⟩
def upM (p:Lf):Lf:=(p.1+1,p.2.1+1,p.2.2)
def mkA (ps:O4 Lf) (pl:Int) (n:Nat):O4 Lf:=ps.map upM++(List.range n).flatMap fun i:Nat=>List.replicate (pl+(1+(i:Int))-1-de ps (1+(i:Int))).toNat ((1+(i:Int),1+(i:Int)+1,1):Lf)
def IP (ps:O4 Lf) (pl:Int):mkA ps pl (aP ps).toNat=fF ps pl:=rfl
theorem vM (ps:O4 Lf) (pl:Int) (n:Nat):mkA ps pl (n+1)=mkA ps pl n++List.replicate (pl+(1+(n:Int))-1-de ps (1+(n:Int))).toNat ((1+(n:Int),1+(n:Int)+1,1):Lf):=by
 unfold mkA;rw[cQ,BE]
inductive spTemQ (vs:List V) (H:Hp) (Q:VK) (E':XK):Prop
 |mk (n:Nat):vs=[.int n]->1<=n->n<=3->(∀l H',ae H H'->H l=none->Is (nw H H') (.l ((sT n).map lfs)) (.ref l)->Q (.ref l) H')->spTemQ vs H Q E'
def MkS (d:Nat) (mk:O4 Lf):Prop:=pz d mk/\ssB (mk.map bx)=true
structure Tp (ps:O4 Lf):Prop where
 l1:1<=aP ps
 l4:aP ps<=4
 len:ps.length<=3
 ok:∀p∈ps,0<=p.1/\p.1<p.2.1/\p.2.1<=4/\1<=p.2.2/\p.2.2<=4
 any:∃p∈ps,p.1=0
 load:∀i:Nat,i<4->0<=de ps (1+(i:Int))
 w0:0<=c8 ps
 w1:c8 ps<2^40
 np:∀d:Nat,1<=d->d<=5->nP (d:Int) ps<=5/\∀i:Nat,i<nP (d:Int) ps->bT ps+(i:Int)<=5/\MkS (aP ps).toNat (fF ps (bT ps+(i:Int)))
theorem vN (c1:1<=c) (c3:c<=3):c∈[1,2,3]:=by
 have:c=1\/c=2\/c=3:=by lia
 rcases this with rfl|rfl|rfl<;>simp
theorem IQ {ps:O4 Lf} (c1:1<=c) (c3:c<=3) (h:ps∈sT c):Tp ps:=by
 have a:=vy;simp only[AS,A9] at a;have a:=(a c (vN c1 c3)).1 ps h;unfold tpB at a;simp only[A9,AU,AS,List.any_eq_true,AW] at a;obtain⟨⟨⟨⟨⟨⟨⟨⟨h1,h2⟩,h3⟩,h4⟩,h5⟩,h6⟩,h7⟩,h8⟩,h9⟩:=a;refine⟨h1,h2,h3,fun p hp=> ?_,h5,h6,h7,h8,fun d d1 d5=> ?_⟩
 .obtain⟨⟨⟨⟨a,b⟩,c⟩,d⟩,e⟩:=h4 p hp;exact⟨a,b,c,d,e⟩
 .have:=h9 (d-1) (by lia);rw[show((d-1:Nat):Int)+1=(d:Int) by lia] at this;refine⟨this.1,fun i hi=> ?_⟩;obtain⟨⟨a,b,bs⟩,e⟩:=this.2 i hi;refine⟨a,⟨fun m hm=> ?_,b⟩,bs⟩;obtain⟨⟨x,y⟩,z⟩:=e m hm;exact⟨x,y,by lia⟩
theorem IR (c1:1<=c) (c3:c<=3):(sT c).length<=30:=by
 have a:=vy;simp only[AS,A9,AU] at a;exact(a c (vN c1 c3)).2
theorem Tp.okt {ps:O4 Lf} (h:Tp ps):OkT ps:=⟨by have:=h.len;lia,fun p hp=>by
 obtain⟨a,b,c,d,e⟩:=h.ok p hp;exact⟨a,b,by lia,d,e⟩,h.any⟩
theorem Tp.ne {ps:O4 Lf} (h:Tp ps):ps≠[]:=fun z=>by
 obtain⟨p,hp,_⟩:=h.any;rw[z] at hp;cases hp
theorem Tp.lea {ps:O4 Lf} (h:Tp ps):1<=bT ps:=by
 have l1:=h.l1;have a:=vw (ps:=ps) (n:=(aP ps).toNat) (i:=0) (by lia);have b:=HD h.okt;unfold bT;have e:(1:Int)+((0:Nat):Int)=1:=by lia
 rw[e] at a;lia
theorem vO (d1:1<=d) (d5:d<=5) (k3:k<=3):vx d k=fD d k/\(∀r∈dP (d:Int) k,rwB k r=true)/\(dP (d:Int) k).length<=300:=by
 have a:=HM;simp only[AS,AW,A9,AU] at a;have a:=a (d-1) (by lia) k (by lia);rw[show((d-1:Nat):Int)+1=(d:Int) by lia,show d-1+1=d by lia] at a;exact⟨a.1.1,a.1.2,a.2⟩
theorem vP {ps:O4 Lf}{pl:Int} (h:Tp ps) (h2:pl<=5):∀{n:Nat},n<=4->(mkA ps pl n).length<=3+30*n
 |0,_=>by
  have:=h.len;unfold mkA;simp;lia
 |n+1,hn=>by
  have ih:=vP h h2 (n:=n) (by lia);have l:=h.load n (by lia);rw[vM,A',B2];lia
inductive spWords (vs:List V) (H:Hp) (Q:VK) (E':XK):Prop
 |mk (v:V) (ps:List Lf) (pl:Int):vs=[v, .int pl]->Is H (lfs ps) v->Tp ps->bT ps<=pl->pl<=5->MkS (aP ps).toNat (fF ps pl)->(∀H',ae H H'->Q (.int (hmF (aP ps).toNat (fF ps pl))) H')->spWords vs H Q E'
inductive spLas (vs:List V) (H:Hp) (Q:VK) (E':XK):Prop
 |mk (v:V) (ps:List Lf) (d:Int):vs=[.int d,v]->Is H (lfs ps) v->Tp ps->(∀H',ae H H'->Q (.int (ic d ps)) H')->spLas vs H Q E'
def r4 (r:Rw):O4 Int:=[r.1,r.2.1,r.2.2.1,r.2.2.2]
def rD (r:Rw):D:=tI (r4 r)
inductive spSta (vs:List V) (H:Hp) (Q:VK) (E':XK):Prop
 |mk (d k:Nat):vs=[.int d, .int k]->1<=d->d<=5->k<=3->(∀l H',ae H H'->H l=none->Is H' (.l ((dP (d:Int) k).map rD)) (.ref l)->Q (.ref l) H')->spSta vs H Q E'
structure Kn (S:O4 Rw) (D:Tab):Prop where
 nd:(D.map (·.1)).Nodup
 key:∀x∈D,∃(k:Nat) (f:Nat),x.1=[(k:Int),(f:Int)]/\k<=3/\f<=90/\x.2=cdF S 3 k (f:Int)
theorem Kn.size {D:Tab} (h:Kn S D):D.length<=400:=by
 have:=oC 400 (D.map fun x=>(x.1.getD 0 0).toNat*100+(x.1.getD 1 0).toNat) ?_ ?_
 .rwa [A1] at this
 .have nd:=h.nd;unfold List.Nodup at nd⊢;rw[List.pairwise_map] at nd⊢;refine List.Pairwise.imp_of_mem (fun{a b} ha hb Kt e=>Kt ?_) nd;obtain⟨k,f,e1,a1,a2,_⟩:=h.key a ha;obtain⟨k',f',e2,b1,b2,_⟩:=h.key b hb;rw[e1,e2] at e⊢;have e:k*100+f=k'*100+f':=e;rw[show k=k' by lia,show f=f' by lia]
 .intro x hx;obtain⟨y,hy,rfl⟩:=Af.mp hx;obtain⟨k,f,e1,a1,a2,_⟩:=h.key y hy;rw[e1];show k*100+f<400;lia
theorem Kn.nil :Kn S []:=⟨by simp,fun _ h=>nomatch h⟩
theorem Kn.put {D:Tab}{f:Nat}{v:Int} (h:Kn S D) (k3:k<=3) (f9:f<=90) (hv:v=cdF S 3 k (f:Int)):Kn S (cR D [(k:Int),(f:Int)] v):=by
 refine⟨uL h.nd _ _,fun x hx=> ?_⟩;unfold cR at hx;split at hx
 .obtain⟨y,hy,rfl⟩:=Af.mp hx;split
  .rename_i e;exact⟨k,f,e,k3,f9,hv⟩
  .exact h.key y hy
 .rcases BI.mp hx with hx|hx
  .exact h.key x hx
  .rw [AY.mp hx];exact⟨k,f,rfl,k3,f9,hv⟩
theorem vQ (S:O4 Rw) (hS:∀r∈S,1<=r.1):∀(n m k:Nat) (f:Int),k<=n->k<=m->cdF S n k f=cdF S m k f
 |n,m,0,_,_,_=>by cases n<;>cases m<;>rfl
 |0,_,_+1,_,h,_=>absurd h (by lia)
 |_,0,_+1,_,_,h=>absurd h (by lia)
 |n+1,m+1,k+1,f,h1,h2=>by
  unfold cdF;congr 1
  refine B' fun r hr=> ?_;have:=hS r hr;rw[vQ S hS n m (((k+1:Nat):Int)-r.1).toNat r.2.2.1 (by lia) (by lia)]
def KnD (H:Hp) (kd:OZ) (S:O4 Rw):Prop:=∃D:Tab,H kd=some (.dT (bh D))/\Kn S D
inductive spCtd (n:Nat) (E':W.Frag) (vs:List V) (H:Hp) (Q:VK) (E2:XK):Prop
 |mk (k f:Nat) (v:V) (kd:Addr) (S:List Rw) (K:Nat):vs=[.int k, .int f,v, .ref kd]->Is H (.l (S.map rD)) v->KnD H kd S->k<n->n<=5->k<=3->f<=90->K<=3->((∀r∈S,rwB K r=true))->S.length<=300->(∀H',But kd H H'->KnD H' kd S->Q (.int (cdF S 3 k (f:Int))) H')->spCtd n E' vs H Q E2
inductive spCor (vs:List V) (H:Hp) (Q:VK) (E':XK):Prop
 |mk (d k:Nat):vs=[.int d, .int k]->1<=d->d<=5->k<=3->(∀H',ae H H'->Q (.int (fD d k)) H')->spCor vs H Q E'
theorem IS (D:Tab) (k:O4 Int) (v:Int):(cR D k v).find? (fun x=>decide (x.1=k))=some (k,v):=by
 unfold cR;by_cases h:(D.any fun x=>decide (x.1=k))=true
 .rw [A8 h];induction D with
  |nil=>simp at h
  |cons x D ih=>
   by_cases e:x.1=k
   .simp [e]
   .rw [AK,A6 e,BV,AX e];exact ih (by simpa[e] using h)
 .rw [A6 h];have:D.find? (fun x=>decide (x.1=k))=none:=by
   rw[DQ];intro x hx z;exact h (List.any_eq_true.mpr ⟨x,hx,z⟩)
  rw[List.find?_append,this];simp
def ij (x:Pc×O4 Pt):D:= .t [pcD x.1,pts x.2]
def Sd (s:Int):Prop:=s=1\/s= -1
inductive spCrn (vs:List V) (H:Hp) (Q:VK) (E':XK):Prop
 |mk (a b c:V) (p q r:Pt):vs=[a,b,c]->Is H (pt p) a->Is H (pt q) b->Is H (pt r) c->inB p=true->inB q=true->inB r=true->Q (.int (crn p q r)) H->spCrn vs H Q E'
inductive spIsP (vs:List V) (H:Hp) (Q:VK) (E':XK):Prop
 |mk (d:Nat) (v:V) (p:Pt):vs=[.int d,v]->Is H (pt p) v->Q (.bl (br d p)) H->spIsP vs H Q E'
def vR:O7 Nat->V
 |none=> .non
 |some p=> .int p
inductive spTurn (vs:List V) (H:Hp) (Q:VK) (E':XK):Prop
 |mk (v:V) (ps:List Pt) (s:Int):vs=[v, .int s]->Is H (pts ps) v->psB ps=true->Sd s->Q (vR (bA ps s)) H->spTurn vs H Q E'
inductive spSteps (vs:List V) (H:Hp) (Q:VK) (E':XK):Prop
 |mk (d:Nat) (v:V) (ps:List Pt) (s:Int):vs=[.int d,v, .int s]->Is H (pts ps) v->psB ps=true->Sd s->(∀l H',ae H H'->H l=none->Is (nw H H') (.l ((bB d ps s).map ij)) (.ref l)->Q (.ref l) H')->spSteps vs H Q E'
inductive spLv (n:Nat) (K:W.Frag) (vs:List V) (H:Hp) (Q:VK) (E':XK):Prop
 |mk (a:Addr) (rs:List V) (k:Nat):vs=[.ref a, .int k]->SqL K H a rs->rs.length<n->rs.length<=20->(∀(l:Addr) (us:List V) (H':Hp),ae H H'->H l=none->H' l=some (.lst us)->bX H H' (lvA rs k) us->Q (.ref l) H')->spLv n K vs H Q E'
theorem IT (ps:O4 Pt):nK (wk ps)= .t (ps.map pt):=by
 unfold nK wk;rw[BX];rfl
theorem pN (h:Is H (.t (ps.map pt)) v):Is H (nK (wk ps)) v:=by
 rw[IT];exact h
theorem jm (d:DN P w H a Kb) (k:But a H H'):LTS H H':=by
 obtain⟨_,_,xs,_,e⟩:=d;exact⟨fun b ys h=>k _ _ h (by rintro rfl;rw[e] at h;cases h),fun b ys h=>k _ _ h (by rintro rfl;rw[e] at h;cases h)⟩
def KnG (d:Nat) (e0:O4 Pt) (Wq:O4 Pt->Int) (R:O4 (O4 (O4 Int)×Int)):Prop:=(R.map (·.1)).Nodup/\(∀x∈R,∃ps,aH d ps/\x=(wk ps,Wq ps))/\wk e0∈R.map (·.1)
theorem KnG.len (h:KnG d e0 Wq R) (hd:d<=4):R.length<=32768:=Hq hd h.1 fun x hx=>by
 obtain⟨ps,ok,e⟩:=h.2.1 x hx;exact⟨ps,ok,by rw[e]⟩
theorem KnG.get {d:Nat}{e0:O4 Pt}{Wq:O4 Pt->Int}{R:O4 (O4 (O4 Int)×Int)} (h:KnG d e0 Wq R) {ps:O4 Pt} (hk:wk ps∈R.map (·.1)):dz R (wk ps)=Wq ps:=by
 obtain⟨qs,_,e⟩:=h.2.1 _ (pD hk);have e1:=Hj (BN Prod.fst e);have e2:dz R (wk ps)=Wq qs:=BN Prod.snd e;rw[e2,e1]
theorem KnG.put (h:KnG d e0 Wq R) (ok:aH d ps):KnG d e0 Wq (ck R (wk ps) (Wq ps)):=
 ⟨vm h.1,fun x hx=>(oS hx).elim (fun hx=>h.2.1 x hx) fun e=>⟨ps,ok,e⟩,by
  rw[oR];split
  .exact h.2.2
  .exact Bx _ h.2.2⟩
inductive spWoG (P:Program) (w:World) (n:Nat) (vs:List V) (H:Hp) (Q:VK) (E':XK):Prop
 |mk (d:Nat) (v:V) (kn:Addr) (ps:List Pt) (R:List (List (List Int)×Int)) (sg:Int) (e0:List Pt) (Wq mu:List Pt->Int):vs=[.int d,v, .int sg, .ref kn]->Side d sg e0 Wq mu->1<=d->d<=4->Is H (pts ps) v->aH d ps->mu ps+1<=n->DN P w H kn (tK R)->KnG d e0 Wq R->(∀R' H',But kn H H'->DN P w H' kn (tK R')->KnG d e0 Wq R'->Q (.int (Wq ps)) H')->spWoG P w n vs H Q E'
inductive spKnG (P:Program) (w:World) (e0:Nat->List Pt) (Wq:Nat->List Pt->Int) (vs:List V) (H:Hp) (Q:VK) (E':XK):Prop
 |mk (d:Nat):vs=[.int d]->1<=d->d<=4->(∀kn R H',ae H H'->H kn=none->DN P w H' kn (tK R)->KnG d (e0 d) (Wq d) R->Q (.ref kn) H')->spKnG P w e0 Wq vs H Q E'
inductive spPw (vs:List V) (H:Hp) (Q:VK) (E':XK):Prop
 |mk (v:V) (c:Pc):vs=[v]->Is H (pcD c) v->((∀p∈c,inB p=true))->((c.length=3\/c.length=4))->Q (.int (pwF c)) H->spPw vs H Q E'
theorem IU (hd:d<=4) (h:aH d ps) {x:Pc×O4 Pt} (hx:x∈bB d ps sg):(∀p∈x.1,inB p=true)/\(x.1.length=3\/x.1.length=4):=by
 have inb:∀p,br d p=true->inB p=true:=fun p hp=>by
  have:=ce.mp hp;unfold inB;simp only[A9,AU];lia
 unfold bB at hx;cases hT:bA ps sg with
 |none=>rw[hT] at hx;exact nomatch hx
 |some p=>
  rw[hT] at hx;dsimp only at hx;obtain⟨p1,p2⟩:=jf hT;have i1:=inb _ (h.1 _ (dM (ps:=ps) (j:=p-1) (by lia)));have i2:=inb _ (h.1 _ (dM (ps:=ps) (j:=p) (by lia)));have i3:=inb _ (h.1 _ (dM (ps:=ps) (j:=p+1) (by lia)));rcases BI.mp hx with hx|hx
  .rw [AY.mp hx];refine⟨fun q hq=> ?_, .inl rfl⟩;simp only[AJ,As,Bq] at hq;rcases hq with rfl|rfl|rfl
   .exact i1
   .exact i2
   .exact i3
  .cases hP:br d (aR (ps.getD (p-1) zP) (ps.getD p zP) (ps.getD (p+1) zP)) with
   |false=>rw[hP] at hx;simp at hx
   |true=>
    rw[hP,A8 rfl] at hx;rw[AY.mp hx];refine⟨fun q hq=> ?_, .inr rfl⟩;simp only[AJ,As,Bq] at hq;rcases hq with rfl|rfl|rfl|rfl
    .exact i1
    .exact i2
    .exact i3
    .exact inb _ hP
theorem DN.but {b:OZ}{kvs':O4 (O4 (O4 Int)×V)} (d:DN P w H a Kb) (e:DN P w H b kvs') (k:But b H H') (n:a≠b):DN P w H' a Kb:=by
 obtain⟨z,y,xs,r,h⟩:=id d;exact d.keeps ((k _ _ h n).trans h.symm) (jm e k).2
theorem IV {L M:O4 (O4 Pt)} (h:L.Perm M):eE d L=eE d M:=by
 unfold eE;induction h with
 |nil=>rfl
 |cons x _ ih=>rw[AK,AK,Aj,Aj,ih]
 |swap x y l=>simp only[AK,Aj];lia
 |trans _ _ i1 i2=>rw[i1,i2]
def vS (a b:OZ) (H H':Hp):Prop:=∀c o,H c=some o->c≠a->c≠b->H' c=some o
theorem IW {c:Pc} (h:∀p∈c,inB p=true) (hl:c.length=3\/c.length=4): -(2^64)<pwF c/\pwF c<2^64:=by
 unfold pwF;by_cases e:c.length=3
 .rw [A8 e];have g:∀j,j<c.length->-20<=(c.getD j zP).1/\(c.getD j zP).1<=20/\-20<=(c.getD j zP).2/\(c.getD j zP).2<=20:=fun j hj=>by
   have:=h _ (dM hj);unfold inB at this;simp only[A9,AU] at this;lia
  have g0:=g 0 (by lia);have g1:=g 1 (by lia);have g2:=g 2 (by lia);generalize c.getD 0 zP=a at g0;generalize c.getD 1 zP=b at g1;generalize c.getD 2 zP=e at g2;have m:∀x y:Int,-40<=x->x<=40->-40<=y->y<=40->-1600<=x*y/\x*y<=1600:=fun x y a1 a2 b1 b2=>by
   have:(x*y).natAbs<=1600:=by
    rw[Int.natAbs_mul];exact C8 (show x.natAbs<=40 by lia) (show y.natAbs<=40 by lia)
   lia
  have m1:=m (b.1-a.1) (e.2-b.2) (by lia) (by lia) (by lia) (by lia);have m2:=m (b.2-a.2) (e.1-b.1) (by lia) (by lia) (by lia) (by lia);unfold abI crn;split<;>lia
 .rw [A6 e];lia
inductive spCbW (vs:List V) (H:Hp) (Q:VK) (E':XK):Prop
 |mk (d k:Nat):vs=[.int d, .int k]->dy d k->(∀H',ae H H'->Q (.int (eE d (bR d k))) H')->spCbW vs H Q E'
inductive spNarQ (vs:List V) (H:Hp) (Q:VK) (E':XK):Prop
 |mk (d k:Nat):vs=[.int d, .int k]->dy d k->Q .non H->spNarQ vs H Q E'
inductive spEdQ (f:Nat->List Pt) (vs:List V) (H:Hp) (Q:VK) (E':XK):Prop
 |mk (n:Nat):vs=[.int n]->1<=n->n<=5->(∀l H',ae H H'->H l=none->Is H' (pts (f n)) (.ref l)->Q (.ref l) H')->spEdQ f vs H Q E'
inductive spWayP (vs:List V) (H:Hp) (Q:VK) (E':XK):Prop
 |mk (d k:Nat):vs=[.int d, .int k]->dy d k->((bR d k).length<=1000/\sWy d k=true)->(∀(L:List (List Pt)) l H',L.Perm (bR d k)->ae H H'->H l=none->Is H' (.l (L.map pts)) (.ref l)->Q (.ref l) H')->spWayP vs H Q E'
inductive spDrP (vs:List V) (H:Hp) (Q:VK) (E':XK):Prop
 |mk (d k:Nat):vs=[.int d, .int k]->Wide d k->(okB d k=true/\(cP d k).length<=1000/\sDr d k=true)->(∀(L:List (List Lf)) l H',L.Perm (cP d k)->ae H H'->H l=none->Is (nw H H') (.l (L.map lfs)) (.ref l)->Q (.ref l) H')->spDrP vs H Q E'
theorem vT {α:Type}{f:O4 α->D}{lt:O4 α->O4 α->Bool}{L:O4 (O4 α)}{Q:VK} (Kc:H acc=some (.lst vs)) (Lg:Iss H (L.map f) vs) (hf:∀x v,Is H (f x) v->∃a ys,v= .ref a/\H a=some (.lst ys)) (Oq:∀x y v w,Is H (f x) v->Is H (f y) w->Ask K H v w (lt x y)) (hl:L.length<=1000) (hs:kQ (fun i j=>L[i]?.bind fun x=>L[j]?.map fun y=>lt x y) L.length=true) (kk:∀(p:O4 Nat) q,p.Perm (List.range L.length)->H q=none->Q (.ref q) (upd H q (.lst (p.map fun i=>vs.getD i .non)))):sj K [.ref acc] H Q:=by
 have LX:vs.length=L.length:=by rw[Lg.length,A1]
 unfold kQ at hs;by_cases Kf:L.length<2
 .refine .inl ⟨acc,vs,rfl,SqL.of Kc,by lia,fun q nq=> ?_⟩;have:=kk (List.range L.length) q (List.Perm.refl _) nq;rw[<-LX,show(List.range vs.length).map (fun i=>vs.getD i V.non)=vs from List.ext_getElem (by simp) fun i h1 h2=>by simp[List.getD,h2]] at this;exact this
 .rw [AX Kf,Bool.false_or] at hs;cases ho:eW (fun i j=>L[i]?.bind fun x=>L[j]?.map fun y=>lt x y) L.length with
  |none=>rw[ho] at hs;cases hs
  |some p=>
   rw[ho] at hs;simp only[A9,AU] at hs;have pp:=List.isPerm_iff.mp hs.2;refine .inr ⟨acc,vs,_,p,rfl,SqL.of Kc,by lia,by lia,hs.1,fun r K3=> ?_,fun i j bb hb=> ?_,by rw[LX];exact ho,fun i hi=>by rw[LX];exact AW.mp (pp.mem_iff.mp hi),fun q nq=>kk p.toList q pp nq⟩
   .obtain⟨i,hi,rfl⟩:=CI.mp K3;obtain⟨w,_,hy⟩:=bd Lg (A2 hi);obtain⟨a,ys,e1,e2⟩:=hf _ _ hy;exact⟨a,ys,e1,SqL.of e2⟩
   .obtain⟨w1,h1,hb⟩:=AA.mp hb;obtain⟨w2,h2,rfl⟩:=AC.mp hb;obtain⟨x,hx,Ku⟩:=Lg.get (j:=i) (x:=f w1) (by rw[AF,h1];rfl);obtain⟨y,hy,Lk⟩:=Lg.get (j:=j) (x:=f w2) (by rw[AF,h2];rfl);exact⟨x,y,hx,hy,Oq _ _ _ _ Ku Lk⟩
theorem vU {α:Type}{L:O4 (O4 α)}{p:O4 Nat} (pp:p.Perm (List.range L.length)):(p.map fun i=>L.getD i []).Perm L:=by
 have:=pp.map fun i=>L.getD i [];rw[show(List.range L.length).map (fun i=>L.getD i [])=L from List.ext_getElem (by simp) fun i h1 h2=>by simp[List.getD,h2]] at this;exact this
theorem IX {α:Type} (f:α->Int) {L M:O4 α} (h:L.Perm M):(L.map f).sum=(M.map f).sum:=by
 induction h with
 |nil=>rfl
 |cons x _ ih=>rw[AK,AK,Aj,Aj,ih]
 |swap x y l=>simp only[AK,Aj];lia
 |trans _ _ i1 i2=>rw[i1,i2]
section
variable {P:O0}{w:O2}{K:W.Frag}{mg:Str->O7 MR}{base:O6} (T:Fns K mg)
theorem IY:OKQ T.X64 P w base 1 (spCell K):=by
 refine FbO T.X64 Gp fun _ _ _ _ H vs Q E hr h=> ?_;obtain⟨a,ns,k,rfl,hS,h0,kk⟩:=h;refine⟨_,(aj (aU (aM cK (pv 1) (bi jD (by rfl) T.n_len boot_len (ab (pv 0) af)) (aF _)) (ai (ao (aw cC (pv 0) (pv 1) (fun _ _=>rfl)))) aS)
  (ai (ao ag))), ?_⟩
 refine⟨_,rfl,_,rfl,a,_,rfl, .inl hS,_,_,rfl,rfl,_,rfl, ?_⟩;refine aX (fun h=> ?_) (fun _=>kk 0);rw[A1] at h;have hk:k.toNat<ns.length:=by lia
 have e:((k.toNat:Nat):Int)=k:=by lia
 exact⟨_,rfl,_,rfl,a,_,k,_,rfl,rfl,hS,by rw[<-e];exact Ik hk,kk _⟩
theorem IZ:OKQ T.X65 P w base 1 spBag:=by
 refine FbO T.X65 nT fun _ _ _ _ H vs Q E hr h=> ?_;obtain⟨c,pl,rfl,h0,h1,kk⟩:=h;refine⟨_,(aj (pSA (i:=2) nT.nd (bi qx (by rfl) T.n_abs boot_abs (ab (pv 0) af)))
  (aj (aU (aM cK (pv 2) (ah qk ag ag) (aF _)) (ai (pSA (i:=2) nT.nd ag)) aS)
  (ai (ao (jz (ab (pv 2) (ab (ah gq (ah aC (ah aC (ah bC (ah gq (pv 0) ag) ag) (ah bC ag (pv 1))) ag) ag) af))))))), ?_⟩
 refine⟨_,rfl,c,rfl, ?_⟩;refine⟨_,rfl,10,18,rfl,rfl,⟨by decide,by decide,by decide⟩,_,_,rfl,rfl,_,rfl, ?_⟩;refine aX (fun _=> ?_) (fun _=> ?_)
 .refine⟨_,rfl,_,rfl,_,_,rfl,rfl,(show(0:Int)<2147483647 by decide),_,_,rfl,rfl, .inr ⟨by decide,by decide⟩,_,rfl,_,_,rfl,rfl, .inl ⟨by decide,by decide⟩,_,_,rfl,rfl,_,_,rfl,rfl,_,_,rfl,rfl,(show(0:Int)<2147483647 by decide), ?_⟩;exact⟨(zB rfl),fun b nb=>kk b _ _ _ (ae.new nb) nb ak (by lia) (Ck _ (by decide))⟩
 .refine⟨_,rfl,_,rfl,_,_,rfl,rfl,(show(0:Int)<2147483647 by decide),_,_,rfl,rfl, .inr ⟨by decide,by decide⟩,_,rfl,_,_,rfl,rfl, .inl ⟨by decide,by decide⟩,_,_,rfl,rfl,_,_,rfl,rfl,_,_,rfl,rfl,(show(0:Int)<2147483647 by decide), ?_⟩;exact⟨(zB rfl),fun b nb=>kk b _ _ _ (ae.new nb) nb ak (by split<;>lia) (Ck _ (by decide))⟩
theorem vV:OKQ T.X66 P w base 1 spMixed:=by
 refine FbO T.X66 Gq fun _ _ _ _ H vs Q E hr h=> ?_;obtain⟨b,Ld,st,rfl,hb,kk⟩:=h;refine⟨_,(aj (k7 (ah gq (ah aC (ah bC (aw cC (pv 0) ag (fun _ _=>rfl)) ag) ag) ag) (qf (pv 0) ag jC))
  (ai (ao (ah k9 (ah gq (ah bC (aw cC (pv 0) ag (fun _ _=>rfl)) ag) ag) ag)))), ?_⟩
 refine⟨_,rfl,b,_,_,_,rfl,rfl,SqL.of hb,by rfl,_,_,rfl,rfl, .inr ⟨by decide,by decide⟩,_,_,rfl,rfl,_,_,rfl,rfl,(show(0:Int)<2147483647 by decide),_,rfl,b,_,_,1,rfl,rfl,hb,by rfl, ?_⟩;refine⟨_,rfl,b,_,_,_,rfl,rfl,SqL.of ak,by rfl,_,_,rfl,rfl, .inr ⟨by decide,by decide⟩,_,_,rfl,rfl,(show(0:Int)<2147483629 by decide),_,_,rfl,rfl,⟨by decide,by decide⟩, ?_⟩;refine kk _ _ ?_ (Ck _ (by decide));lia
theorem kT:OKQ T.X67 P w base 2 spDigit:=by
 refine FbO T.X67 i6 fun _ _ _ _ H vs Q E hr h=> ?_;obtain⟨b,LV,Ld,st,rfl,hb,hf,Lm,hm,hm2,kk⟩:=h;refine⟨_,(aj (aU (aM dR (aw cC (pv 0) ag (fun _ _=>rfl)) ag (aF _)) (aj (pSA (i:=2) i6.nd (ah gq (aw cC (pv 0) ag (fun _ _=>rfl)) (pv 1)))
  (aj (k7 (ah y7 (aw cC (pv 0) ag (fun _ _=>rfl)) (pv 1)) (qf (pv 0) ag jC))
  (ai (ao (pv 2))))) aS)
  (aj (pSA (i:=2) i6.nd (pcq (vV T) hr T.X66 (ab (pv 0) af)))
  (aj (aU (aM dR (pv 1) ag (aF _)) (ai (aL AO rfl (fq (by rfl) T.n_range (ab ag af)) (pGA (i:=3) i6.nd) (ai (pSA (i:=2) i6.nd (ah aC (ah bC (pv 2) ag) (pcq (vV T) hr T.X66 (ab (pv 0) af))))))) aS)
  (ai (ao (ah gq (pv 2) (pv 1))))))), ?_⟩
 refine⟨_,rfl,b,_,_,_,rfl,rfl,SqL.of hb,by rfl,_,_,rfl,rfl,_,rfl, ?_⟩;refine aX (fun h=> ?_) (fun h=> ?_)
 .refine⟨_,rfl,b,_,_,_,rfl,rfl,SqL.of hb,by rfl,_,rfl,_,_,rfl,rfl,hm, ?_⟩;refine⟨_,rfl,b,_,_,_,rfl,rfl,SqL.of hb,by rfl,_,rfl,_,_,rfl,rfl,Il hm hm2,_,rfl,b,_,_,0,rfl,rfl,hb,by rfl, ?_⟩;exact⟨_,rfl,kk _ _ _ (Ck _ (by lia)) (Int.emod_lt_of_pos _ hm) (Int.fdiv_nonneg hf (by lia)) Lm⟩
 .refine⟨_,rfl,b,Ld,st,rfl,hb,fun z Km hz Md=> ?_⟩;refine⟨_,rfl,_,_,rfl,rfl,_,rfl, ?_⟩;refine aX (fun h=> ?_) (fun h=> ?_)
  .refine⟨7,rfl,by decide,by decide,cJ (n:=7) (fun i σ H2=>∃(z:Int) (v:O7 V) (Km:Int),σ=[some (.ref b),some (.int LV),some (.int z),v]/\0<=z/\0<=Km/\H2=upd H b (.lst [.int Ld, .int Km])) ⟨z,_,Km,rfl,hz,Md,rfl⟩ ?_ ?_⟩
   .rintro i σ H2 hi ⟨z,v,Km,rfl,hz,Md,rfl⟩;refine⟨_,rfl,_,_,rfl,rfl, .inr ⟨by decide,by decide⟩,_,rfl,b,Ld,Km,rfl,ak,fun z2 Lo hz2 OC=>⟨_,_,rfl,rfl, ?_⟩⟩;exact⟨_,_,Lo,rfl,by lia,OC,pW⟩
   .rintro σ H2 ⟨z,v,Km,rfl,hz,Md,rfl⟩;exact⟨_,rfl,_,rfl,_,_,rfl,rfl,hm,kk _ _ _ (Ck _ (by lia)) (Int.emod_lt_of_pos _ hm) hf Md⟩
  .exact⟨_,rfl,_,rfl,_,_,rfl,rfl,hm,kk _ _ _ (Ck _ (by lia)) (Int.emod_lt_of_pos _ hm) hf Md⟩
theorem vX:OKQ T.X0 P w base 1 sp_whole:=by
 refine FbO T.X0 FN fun _ _ _ _ H vs Q E hr h=> ?_;obtain⟨v,rfl,ht,kk⟩:=h;refine⟨_,(ai (ao (ju (bi iB (by rfl) T.n_isinstance DZ (ab (pv 0) (ab (io (v:= .ty "int") (by rfl) T.n_int boot_int (by rfl)) af))) (ip (xk (bi iB (by rfl) T.n_isinstance DZ (ab (pv 0) (ab (io (v:= .ty "bool") (by rfl) T.n_bool boot_bool (by rfl)) af)))))))), ?_⟩;rcases ht with⟨i,rfl⟩|⟨b,rfl⟩|rfl|⟨x,rfl⟩|⟨a,xs,rfl,ha⟩|⟨a,xs,rfl,ha⟩
 .exact⟨_,rfl,_,"int",_,true,rfl, .int i,qV,true,rfl,dC ⟨_,rfl,_,"bool",_,false,rfl, .int i,yS,false,rfl,kk⟩⟩
 .exact⟨_,rfl,_,"int",_,true,rfl, .bl b,yT,true,rfl,dC ⟨_,rfl,_,"bool",_,true,rfl, .bl b,qV,true,rfl,kk⟩⟩
 .exact⟨_,rfl,_,"int",_,false,rfl, .non,zx,false,rfl,bn kk⟩
 .exact⟨_,rfl,_,"int",_,false,rfl, .str x,zy,false,rfl,bn kk⟩
 .exact⟨_,rfl,_,"int",_,false,rfl, .lst ha,zA,false,rfl,bn kk⟩
 .exact⟨_,rfl,_,"int",_,false,rfl, .tup ha,zC,false,rfl,bn kk⟩
theorem fH:OKQ T.X1 P w base 2 spBetQ:=by
 refine FbO T.X1 FO fun _ _ _ _ H vs Q E hr h=> ?_;obtain⟨i,lo,hi,rfl,h1,h2,kk⟩:=h;refine⟨_,(ai (aU (fm (fI (dQ (pcq (vX T) hr T.X0 (ab (pv 0) af)))) (fm (aM cK (pv 0) (pv 1) (aF _)) (gm (aM dR (pv 0) (pv 2) (aF _))))).pt (ai jv) aS)), ?_⟩;refine⟨_,rfl,_,rfl, .inl ⟨_,rfl⟩,true,rfl,bn ⟨_,rfl,_,rfl,i,lo,rfl,rfl,_,rfl,aX (fun hl=>absurd hl (by lia)) (fun _=> ?_)⟩⟩;exact⟨_,rfl,_,rfl,i,hi,rfl,rfl,_,rfl,aX (fun hl=>absurd hl (by lia)) (fun _=>kk)⟩
theorem jn:OKQ T.X4 P w base 3 spDegQ:=by
 refine FbO T.X4 FR fun _ _ _ _ H vs Q E hr h=> ?_;obtain⟨i,rfl,h1,h2,kk⟩:=h;refine⟨_,(ai (aT (pcq (fH T) hr T.X1 (ab (pv 0) (ab ag (ab ag af)))))), ?_⟩;exact⟨_,rfl,i,1,5,rfl,h1,h2,kk⟩
theorem pO:OKQ T.X3 P w base 3 spWidQ:=by
 refine FbO T.X3 FQ fun _ _ _ _ H vs Q E hr h=> ?_;obtain⟨d,k,rfl,hW,kk⟩:=h;refine⟨_,(aj (aT (pcq (fH T) hr T.X1 (ab (pv 0) (ab ag (ab ag af)))))
  (ai (aT (pcq (fH T) hr T.X1 (ab (pv 1) (ab ag (ab (rQ (jq (v:= .ref T.a_WIDE) (by rfl) T.m_WIDE (by rfl)) (pv 0) (fun _ _=>rfl)) af))))))), ?_⟩
 unfold Wide at hW;refine⟨_,rfl,d,1,5,rfl,by lia,by lia, ?_⟩;obtain⟨hi,hl,hN⟩:∃hi:Int,([(1,6),(2,6),(3,6),(4,6),(5,3)]:O4 (Int×Int)).lookup (d:Int)=some hi/\(k:Int)<=hi:=by
  have hd:d=1\/d=2\/d=3\/d=4\/d=5:=by lia
  rcases hd with rfl|rfl|rfl|rfl|rfl
  .exact⟨6,rfl,by lia⟩
  .exact⟨6,rfl,by lia⟩
  .exact⟨6,rfl,by lia⟩
  .exact⟨6,rfl,by lia⟩
  .exact⟨3,rfl,by lia⟩
 exact⟨_,rfl,_,rfl,T.a_WIDE,_,d,hi,rfl,T.D_WIDE,rfl,hl,k,0,hi,rfl,by lia,hN,kk⟩
theorem vY:OKQ T.X2 P w base 3 spNarQ:=by
 refine FbO T.X2 FP fun _ _ _ _ H vs Q E hr h=> ?_;obtain⟨d,k,rfl,hW,kk⟩:=h;refine⟨_,(aj (aT (pcq (fH T) hr T.X1 (ab (pv 0) (ab ag (ab ag af)))))
  (ai (aT (pcq (fH T) hr T.X1 (ab (pv 1) (ab ag (ab (rQ (jq (v:= .ref T.a_NARROW) (by rfl) T.m_NARROW (by rfl)) (pv 0) (fun _ _=>rfl)) af))))))), ?_⟩
 unfold dy at hW;refine⟨_,rfl,d,1,4,rfl,by lia,by lia, ?_⟩;obtain⟨hi,hl,hN⟩:∃hi:Int,([(1,6),(2,6),(3,6),(4,2)]:O4 (Int×Int)).lookup (d:Int)=some hi/\(k:Int)<=hi:=by
  have hd:d=1\/d=2\/d=3\/d=4:=by lia
  rcases hd with rfl|rfl|rfl|rfl
  .exact⟨6,rfl,by lia⟩
  .exact⟨6,rfl,by lia⟩
  .exact⟨6,rfl,by lia⟩
  .exact⟨2,rfl,by lia⟩
 exact⟨_,rfl,_,rfl,T.a_NARROW,_,d,hi,rfl,T.D_NARROW,rfl,hl,k,0,hi,rfl,by lia,hN,kk⟩
theorem pP:OKQ T.X6 P w base 4 spEndQ:=by
 refine FbO T.X6 iR fun _ _ _ _ H vs Q E hr h=> ?_;obtain⟨n,dv,ps,rfl,n1',n5',hd,hok,k2⟩:=h;refine⟨_,(aj (aT (pcq (jn T) hr T.X4 (ab (pv 0) af)))
  (aj (pSA (i:=2) iR.nd (ah gG (aN (ab ag af)) (pv 0)))
  (aj (aL AO rfl (aY (pv 1)) (cA rfl (aO (pGA (i:=3) iR.nd) (aO (pGA (i:=4) iR.nd) (aO (pGA (i:=5) iR.nd) b0)))) (aj (qh (pv 2) (ah aK (pv 3) ag) rh (pv 5) xx jC)
  (ai (qh (pv 2) (ah aK (pv 4) ag) rh (pv 5) iu jC))))
  (ai (ao (pv 2)))))), ?_⟩
 refine⟨_,rfl,n,rfl,by lia,by lia, ?_⟩;refine⟨(zB rfl),fun l1 H1 n1 s1 h1=> ?_⟩;refine⟨_,rfl, .i 1,n,aD h1 (am bv ap),rfl,by lia,by lia,Ae (aA (by lia)),fun l H2 n2 s2 h2=> ?_⟩;rw[An] at h2;obtain⟨_,ME,e2,K0,Ly⟩:=aB h2;cases e2;rw[<-Bu] at Ly;rw[jM Ly] at K0;have Nj:=s1.trans s2;obtain⟨da,Ki,rfl,Kp,Kx⟩:=aB hd;have Ke:Ki.length=ps.length:=by rw[Kx.length,A1]
 refine⟨_,rfl,da,rfl,⟨_,SqL.of (Nj _ _ Kp)⟩,bP (xs:=Ki) (fun i σ H3=>(∃v3 v4 v5,σ=[some (.int n),some (.ref da),some (.ref l),v3,v4,v5])/\ae H H3/\H3 l=some (.lst (((ps.take i).foldl cX (List.replicate n 1)).map V.int)))
  ⟨⟨none,none,none,rfl⟩,Nj,K0⟩ (fun i σ H3 _ h=>SqL.of (h.2.1 _ _ Kp)) ?_ ?_⟩
 .rintro i y σ H3 hi ⟨⟨v3,v4,v5,rfl⟩,s3,LK⟩;obtain⟨p,Ky,hy⟩:=bd Kx hi;obtain⟨t,rfl,hta⟩:=eY hy;obtain⟨o1,o2,o3,o4⟩:=hok p (AV Ky);have el:=(kr (ps.take i) (List.replicate n 1) (by simp) fun q hq=>hok q (DC hq)).1;have en:(ps.take (i+1)).foldl cX (List.replicate n 1)=cX ((ps.take i).foldl cX (List.replicate n 1)) p:=by
   rw[AN,Ky,CV];rfl
  rw[en];generalize (ps.take i).foldl cX (List.replicate n 1)=e at LK el⊢;have nl:H l=none:=s1.free n2;refine⟨t,_,rfl,SqT.of (s3 _ _ hta),rfl, ?_⟩;refine⟨_,_,rfl,_,_,rfl,_,_,rfl,rfl, ?_⟩;have j1:(p.1-1).toNat<e.length:=by lia
  have j2:(p.2.1-1).toNat<e.length:=by lia
  have k1:p.1-1=((p.1-1).toNat:Int):=by lia
  have kq:p.2.1-1=((p.2.1-1).toNat:Int):=by lia
  have g1:(e.map V.int)[(p.1-1).toNat]? =some (.int (e.getD (p.1-1).toNat 0)):=by
   exact nZ j1
  refine⟨_,rfl,_,rfl,_,_,rfl,rfl, ?_⟩;refine⟨l,_,(p.1-1).toNat,_,_,rfl,rfl,k1,SqL.of LK,g1, ?_⟩;refine⟨_,rfl,_,_,rfl,rfl,l,_,_,(p.1-1).toNat,rfl,rfl,LK,by rw[k1,A1];exact rg j1, ?_⟩;rw[<-map_set];have j2':(p.2.1-1).toNat<(e.set (p.1-1).toNat (e.getD (p.1-1).toNat 0-p.2.2)).length:=by rw[BU];exact j2
  have g2:((e.set (p.1-1).toNat (e.getD (p.1-1).toNat 0-p.2.2)).map V.int)[(p.2.1-1).toNat]? =some (.int ((e.set (p.1-1).toNat (e.getD (p.1-1).toNat 0-p.2.2)).getD (p.2.1-1).toNat 0)):=by
   exact nZ j2'
  refine⟨_,rfl,_,rfl,_,_,rfl,rfl, ?_⟩;refine⟨l,_,(p.2.1-1).toNat,_,_,rfl,rfl,kq,SqL.of ak,g2, ?_⟩;refine⟨_,rfl,_,_,rfl,rfl,l,_,_,(p.2.1-1).toNat,rfl,rfl,ak,by rw[kq,A1];exact rg j2', ?_⟩;rw[<-map_set,pW];exact⟨⟨_,_,_,rfl⟩,s3.put nl,ak⟩
 .rintro σ H3 ⟨⟨v3,v4,v5,rfl⟩,s3,LK⟩;rw[Ke,AR] at LK;exact⟨_,rfl,k2 l H3 s3 (s1.free n2) LK⟩
theorem gj:OKQ T.X8 P w base 1 spLost:=by
 refine FbO T.X8 FT fun _ _ _ _ H vs Q E hr h=> ?_;obtain⟨v,p,rfl,hv,⟨p1,p2,p3,p4⟩,kk⟩:=h;refine⟨_,(ai (ao (ah aK (ah bC (ah aK (aw aG (pv 0) ag (fun _ _=>rfl)) (aw aG (pv 0) ag (fun _ _=>rfl))) (aw aG (pv 0) ag (fun _ _=>rfl))) ag))), ?_⟩;refine⟨_,rfl,_,1,_,hv,rfl,rfl,fun u hu=> ?_⟩;rw[az hu];refine⟨_,rfl,_,0,_,hv,rfl,rfl,fun u hu=> ?_⟩;rw[az hu];refine⟨_,_,rfl,rfl,_,rfl,_,2,_,hv,rfl,rfl,fun u hu=> ?_⟩;rw[az hu];exact⟨_,_,rfl,rfl, .inr ⟨by lia,by lia⟩,_,_,rfl,rfl,kk⟩
theorem I0:OKQ T.X9 P w base 2 spLfr:=by
 refine FbO T.X9 jT fun _ _ _ _ H vs Q E hr h=> ?_;obtain⟨d,f,n,sp,rfl,fd,d5,n20,kk⟩:=h;refine⟨_,(aj (pSA (i:=4) jT.nd (aN af))
  (aj (aL AO rfl (cS (by rfl) T.n_range (ab (ah aC (pv 1) ag) (ab (ah aC (pv 0) ag) af))) (pGA (i:=5) jT.nd) (ai (aL AO rfl (cS (by rfl) T.n_range (ab ag (ab (ah aC (pv 2) ag) af))) (pGA (i:=6) jT.nd) (ai (aU (aM eN (pcq (gj T) hr T.X8 (ab (aZ (ab (pv 1) (ab (pv 5) (ab (pv 6) af)))) af)) (pv 3) (aF _)) (ai (aT (bQ Aa Ax Aw cU (pv 4) (ab (aZ (ab (pv 1) (ab (pv 5) (ab (pv 6) af)))) af)))) aS)))))
  (ai (ao (pv 4))))), ?_⟩
 refine⟨AQ _,fun fo H1 n1 s1 h1=> ?_⟩;refine⟨_,rfl,_,_,rfl,rfl,_,rfl,_,_,rfl,rfl,_,_,rfl,⟨by lia,by lia,by lia,by lia⟩, ?_⟩;rw[show((d:Int)+1-((f:Int)+1)).toNat=d-f by lia];refine cJ (lo:=(f:Int)+1) (n:=d-f) (fun i σ H2=>(∃v5 v6,σ=[some (.int d),some (.int f),some (.int n),some (.int sp),some (.ref fo),v5,v6])/\ae H H2/\∃vs,H2 fo=some (.lst vs)/\Iss H2 ((cY f i n sp).map lf) vs) ⟨⟨none,none,rfl⟩,s1,[],h1,ap⟩ ?_ ?_
 .rintro i σ H2 hi ⟨⟨v5,v6,rfl⟩,s2,ME,Ko,Mg⟩;refine⟨_,rfl,_,_,rfl,rfl,_,_,rfl,⟨by decide,by decide,by lia,by lia⟩, ?_⟩;rw[show((n:Int)+1-1).toNat=n by lia];refine cJ (lo:=1) (n:=n) (fun j σ H3=>(∃v6,σ=[some (.int d),some (.int f),some (.int n),some (.int sp),some (.ref fo),some (.int ((f:Int)+1+(i:Int))),v6])/\ae H H3/\∃vs,H3 fo=some (.lst vs)/\Iss H3 ((cY f i n sp++eB f ((f:Int)+1+(i:Int)) j sp).map lf) vs) ⟨⟨v6,rfl⟩,s2,ME,Ko,by simpa[eB] using Mg⟩ ?_ ?_
  .rintro j σ H3 hj ⟨⟨v6,rfl⟩,s3,Nk,Kh,Lr⟩;have vl:Nk.length<=200:=by
    rw[Lr.length,A1,A'];have a:=oj f n sp i;have b:=uy f ((f:Int)+1+(i:Int)) j sp;have:i*n<=5*20:=C8 (by lia) n20;lia
   refine⟨_,rfl,_,rfl,_,rfl,(zB rfl),fun t H4 nt s4 ht=>⟨.ref t,((f:Int),(f:Int)+1+(i:Int),1+(j:Int)),rfl,eZ ht,⟨?_, ?_, ?_, ?_⟩,_,rfl,_,_,rfl,rfl,_,rfl,aX (fun c=> ?_) (fun c=> ?_)⟩⟩
   .show 0<=(f:Int)+1+(i:Int)-(f:Int);lia
   .show(f:Int)+1+(i:Int)-(f:Int)<=10;lia
   .show 1<=1+(j:Int);lia
   .show 1+(j:Int)<=20;lia
   .refine⟨_,rfl, .inl ⟨rfl,_,SqL.of (s4 _ _ Kh)⟩,_,rfl,_,rfl,_,rfl,(zB rfl),fun t2 H5 nt2 s5 Nl=>⟨fo,Nk,_,rfl,rfl,s5 _ _ (s4 _ _ Kh),aA (by lia),⟨_,rfl⟩,(s3.trans (s4.trans s5)).put n1,_,ak, ?_⟩⟩;rw[uw,A8 c,<-BE];refine fb (ay.upd (s5 _ _ (s4 _ _ Kh))) ?_;rw[A5];exact(Lr.mono (s4.trans s5)).append (am (eZ Nl) ap)
   .refine⟨⟨_,rfl⟩,s3.trans s4,Nk,s4 _ _ Kh, ?_⟩;rw[uw,A6 c,B5];exact Lr.mono s4
  .rintro σ H3 ⟨⟨v6,rfl⟩,s3,Nk,Kh,Lr⟩;exact⟨⟨_,_,rfl⟩,s3,Nk,Kh,by rw[ux];exact Lr⟩
 .rintro σ H2 ⟨⟨v5,v6,rfl⟩,s2,ME,Ko,Mg⟩;exact⟨_,rfl,kk fo H2 s2 n1 (aD Ko Mg)⟩
theorem vZ:∀n:Nat,FnOk P w K mg base CX0 (n+1) T.f10 T.d10 ["lifts","weight","spare"] (spLeav n K)
 |0=>⟨fun vs H Q E h=>by obtain⟨_,_,_,_,_,_,_,h,h',_⟩:=h;lia,fun A outer s H args us vs Q E _ _ _ _ h=>by obtain⟨_,_,_,_,_,_,_,h,h',_⟩:=h;lia⟩
 |n+1=>by
  have ih:=vZ n;refine T.X10.F.ok iS (fun vs H Q E h=> ?_) (fun Kz A outer s H vs Q E hr h=> ?_)
  .obtain⟨_,_,_,_,rfl,_⟩:=h;rfl
  .obtain⟨v,ls,wt,sp,rfl,hv,hok,w0,w1,hL,hl,hn,kk⟩:=h;refine⟨_,(aj (pSA (i:=3) iS.nd (aN (ab (aN af) af)))
   (aj (aL AO rfl (jH (by rfl) T.n_enumerate (pv 0)) (cA rfl (aO (pGA (i:=4) iS.nd) (aO (pGA (i:=5) iS.nd) b0))) (ai (aU (jt (aM eN (aw aG (pv 5) ag (fun _ _=>rfl)) (pv 1) (aF _)) (jr (aM eN (pcq (gj T) hr T.X8 (ab (pv 5) af) (by lia)) (pv 2) (aF _)))).pt (ai (aL AO rfl (aY (dS ih hr (by rfl) T.X10.m T.X10.F.kp T.X10.B .nil dW (ab (dA eP (pv 0) (dh (pv 4)) dU) (ab (ah aK (pv 1) (aw aG (pv 5) ag (fun _ _=>rfl))) (ab (ah aK (pv 2) (pcq (gj T) hr T.X8 (ab (pv 5) af) (by lia))) af))))) (pGA (i:=6) iS.nd) (ai (aT (bQ Aa Ax Aw cU (pv 3) (ab (ah dE (aN (ab (pv 5) af)) (pv 6)) af)))))) aS)))
   (ai (ao (pv 3))))), ?_⟩
   obtain⟨da,Ki,rfl,Kp,Kx⟩:=aB hv;have KC:Ki.length=ls.length:=by rw[Kx.length,A1]
   refine⟨AQ _,fun e0 H1 ne s1 he=>⟨(zB rfl),fun fo H2 nf s2 KU=> ?_⟩⟩;have Ms:H fo=none:=s1.free nf;have e0fo:e0≠fo:=by rintro rfl;rw[he] at nf;cases nf
   have acc0:Acc H H2 fo (([[]]:O4 (O4 Lf)).map lfs):=⟨[.ref e0],KU,am (aD (vs:=[]) (by rw[dX e0fo,bV ne];exact s2 _ _ he) ap) ap⟩;have tot:∀i:Nat,i<ls.length->1+((List.range i).flatMap (cZ n ls wt sp)).length+(cZ n ls wt sp i).length<=1000:=fun i hi=>by
    have:=ja (cZ n ls wt sp) hi;rw[oh,A',D4] at hL;lia
   refine⟨_,rfl,da,rfl,⟨_,SqL.of (s2 _ _ (s1 _ _ Kp))⟩,lD (xs:=Ki) (fun i σ H3=>(∃v4 v5 v6,σ=[some (.ref da),some (.int wt),some (.int sp),some (.ref fo),v4,v5,v6])/\ae H H3/\Acc H H3 fo (([[]]++(List.range i).flatMap (cZ n ls wt sp)).map lfs)) ⟨⟨none,none,none,rfl⟩,s1.trans s2,by simpa using acc0⟩ (fun i σ H3 _ h=>SqL.of (h.2.1 _ _ Kp)) ?_ ?_⟩
   .rintro i y σ H3 pa hi ⟨⟨v4,v5,v6,rfl⟩,s3,Kc⟩ np;obtain⟨p,Ky,hy⟩:=bd Kx hi;have NG:i<ls.length:=(AD.mp Ky).1;obtain⟨p1,p2,p3,p4⟩:=id (hok p (AV Ky));have tt:=tot i NG;have NH:ae H3 (upd H3 pa (.tup [.int i,y])):=ae.new np;have KO:=Kc.mono NH;have stay:cZ n ls wt sp i=[]->Acc H (upd H3 pa (.tup [.int i,y])) fo (([[]]++(List.range (i+1)).flatMap (cZ n ls wt sp)).map lfs):=fun e=>by
     rw[cQ,e,B5];exact KO
    have L8:Is (upd H3 pa (.tup [.int i,y])) (lf p) y:=(hy.mono s3).mono NH;refine⟨pa,_,rfl,SqT.of ak,rfl,_,_,rfl,_,_,rfl,rfl, ?_⟩;generalize upd H3 pa (.tup [.int i,y])=H4 at NH KO stay L8⊢;have s4:ae H H4:=s3.trans NH;refine⟨_,rfl,_,2,_,L8,rfl,rfl,fun u hu=> ?_⟩;rw[az hu];refine⟨_,rfl,_,_,rfl,rfl,_,rfl,aX (fun c1=> ?_) (fun c1=> ?_)⟩
    .refine⟨_,rfl,y,p,rfl,L8,⟨p1,p2,p3,p4⟩,_,rfl,_,_,rfl,rfl,_,rfl,aX (fun c2=> ?_) (fun c2=> ?_)⟩
     .have eG:cZ n ls wt sp i=(cu n (ls.drop i) (wt-p.2.2) (sp-aV p)).map (p:: ·):=by
       unfold cZ;rw[Ky];exact A8 ⟨c1,c2⟩
      rw[eG,A1] at tt;refine⟨_,rfl,_,rfl,i,rfl,da,_,rfl,SqL.of (s4 _ _ Kp), ?_⟩;rw[jg (by lia)];intro l2 n2;have MF:ae H4 (upd H4 l2 (.lst (Ki.drop i))):=ae.new n2;have K0:(upd H4 l2 (.lst (Ki.drop i))) l2=some (.lst (Ki.drop i)):=ak;generalize upd H4 l2 (.lst (Ki.drop i))=H5 at MF K0⊢;have s5:=s4.trans MF;have hdr:Is H5 (lfs (ls.drop i)) (.ref l2):=aD K0 (by rw[D9];exact(Kx.drop i).mono s5);refine⟨_,rfl,_,rfl,_,2,_,L8.mono MF,rfl,rfl,fun u hu=> ?_⟩;rw[az hu];refine⟨_,_,rfl,rfl,_,rfl,_,rfl,y,p,rfl,L8.mono MF,⟨p1,p2,p3,p4⟩,_,_,rfl,rfl, ?_⟩;refine⟨.ref l2,ls.drop i,wt-p.2.2,sp-aV p,rfl,hdr,fun q hq=>hok q (Bj hq),by lia,by lia,by lia,by rw[Bk];lia,by lia,fun rl H6 s6 Ls Lz=> ?_⟩;obtain⟨MY,Kr,MZ⟩:=KO.mono MF;have Mv:H6 fo=some (.lst MY):=s6 _ _ Kr;obtain⟨_,KF,e,Mh,KW⟩:=aB Lz;cases e;have LY:H6 rl=some (.lst KF):=bE _ _ Mh;have Mi:rl≠fo:=by rintro rfl;rw[Kr] at Ls;cases Ls
      have KG:KF.length=(cu n (ls.drop i) (wt-p.2.2) (sp-aV p)).length:=by rw[KW.length,A1]
      have M0:Iss (hid H6 fo) ((cu n (ls.drop i) (wt-p.2.2) (sp-aV p)).map lfs) KF:=(KW.mono (i8 (ae.refl H5) Kr)).mono (dq bE);have s56:=s5.trans s6;refine⟨rl,rfl,⟨_,SqL.of LY⟩,bP (xs:=KF) (fun j σ H7=>(∃v6,σ=[some (.ref da),some (.int wt),some (.int sp),some (.ref fo),some (.int i),some y,v6])/\ae H H7/\But fo H6 H7/\Acc H H7 fo (([[]]++(List.range i).flatMap (cZ n ls wt sp)++((cu n (ls.drop i) (wt-p.2.2) (sp-aV p)).take j).map (p:: ·)).map lfs)) ⟨⟨_,rfl⟩,s56,fun _ _ e _=>e,by simpa using (KO.mono MF).mono s6⟩ (fun j σ H7 _ h=>SqL.of (h.2.2.1 _ _ LY Mi)) ?_ ?_⟩
      .rintro j x σ H7 hj ⟨⟨v6,rfl⟩,s7,Lu,NI,Lh,Nm⟩;obtain⟨r,K3,hx⟩:=bd M0 hj;have hjl:j<(cu n (ls.drop i) (wt-p.2.2) (sp-aV p)).length:=(AD.mp K3).1;have hx7:Is H7 (lfs r) x:=hx.mono (pq Lu);have ritem:=(on (fun q hq=>(hok q (Bj hq)).2.2.1) (by lia) (AV K3)).1;have vl:NI.length<=999:=by
        rw[Nm.length,A1,A',A',A1,Ac,D4];lia
       have hy7:Is H7 (lf p) y:=hy.mono s7;refine⟨_,rfl, .inl ⟨rfl,_,SqL.of Lh⟩,_,rfl,(zB rfl),fun q1 H8 n8 s8 h8=>⟨_,rfl,[lf p],r.map lf,aD h8 (am (hy7.mono s8) ap),hx7.mono s8,Ae (aA (by rw[A1];show 1+r.length<=1000;lia)),fun q2 H9 n9 s9 h9=> ?_⟩⟩;have M1:=s8.trans s9;refine⟨fo,NI,_,rfl,rfl,M1 _ _ Lh,aA (by lia),⟨_,rfl⟩,(s7.trans M1).put Ms,Lu.trans ((But.of_same M1).trans But.upd), ?_⟩;rw[AN,K3];have:=Acc.add s7 M1 Lh Nm (og (ps:=p::r) M1 (s8.free n9) h9);simpa using this
      .rintro σ H7 ⟨⟨v6,rfl⟩,s7,_,LZ⟩;refine⟨⟨_,_,_,rfl⟩,s7, ?_⟩;rw[KG,AR,<-eG,BE,<-cQ] at LZ;exact LZ
     .refine⟨⟨_,_,_,rfl⟩,s4,stay ?_⟩;unfold cZ;rw[Ky];exact A6 fun z=>c2 z.2
    .refine bn ⟨⟨_,_,_,rfl⟩,s4,stay ?_⟩;unfold cZ;rw[Ky];exact A6 fun z=>c1 z.1
   .rintro σ H3 ⟨⟨v4,v5,v6,rfl⟩,s3,Kc⟩;rw[KC,<-oh] at Kc;exact⟨_,rfl,kk fo H3 s3 Ms (Kc.is Ms)⟩
theorem I8:OKQ T.X11 P w base 10 spWith:=by
 refine FbO T.X11 gQ fun Kz A outer s H vs Q E hr h=> ?_;obtain⟨d,f,v,x,rfl,fd,d5,hv,Lm,kk⟩:=h;refine⟨_,(aj (pSA (i:=4) gQ.nd (aw cC (pcq (pP T) hr T.X6 (ab (pv 0) (ab (pv 2) af))) (ah aK (pv 1) ag) (fun _ _=>rfl)))
  (aj (pSA (i:=5) gQ.nd (aN af))
  (aj (aL AO rfl (aY (pcq (vZ T 8) hr T.X10 (ab (pcq (I0 T) hr T.X9 (ab (pv 0) (ab (pv 1) (ab (pv 4) (ab (pv 3) af))))) (ab (pv 4) (ab (pv 3) af))))) (pGA (i:=6) gQ.nd) (aj (pSA (i:=7) gQ.nd (ah aK (pv 4) (bi (gF rfl) (by rfl) T.n_sum Da (ab (cq (XN:=["d","floor","drawing","spare","there","found","lifts","ends","left"]) (sc:=al iT) (N:=["lift"]) (own:=1) (js:=[]) rfl (by ac_nf) rfl rfl (aY (pv 6)) (fun _ _ _ _=>(bm (i:=0) (show List.Nodup (["lift"]:O4 Str) by ac_nf) rfl (Or.inl rfl) (.inr rfl))) (cg (by decide)) (fun _ _ _ _=>cp) (fun _ _ _ _=>(aw aG (pv 0) ag (fun _ _=>rfl)))) af))))
  (aj (pSA (i:=8) gQ.nd (ah aK (ah aK (pv 3) (bi (gF rfl) (by rfl) T.n_sum Da (ab (cq (XN:=["d","floor","drawing","spare","there","found","lifts","ends","left"]) (sc:=al iT) (N:=["lift"]) (own:=1) (js:=[]) rfl (by ac_nf) rfl rfl (aY (pv 6)) (fun _ _ _ _=>(bm (i:=0) (show List.Nodup (["lift"]:O4 Str) by ac_nf) rfl (Or.inl rfl) (.inr rfl))) (cg (by decide)) (fun _ _ _ _=>cp) (fun _ _ _ _=>(pcq (gj T) hr T.X8 (ab (pv 0) af)))) af))) (ah bC (pv 7) (ah aK (pv 0) (pv 1)))))
  (ai (aU (aM ix (pv 8) ag (aF _)) (ai (aT (bQ Aa Ax Aw cU (pv 5) (ab (aZ (ab (ah dE (pv 2) (pv 6)) (ab (pv 8) af))) af)))) aS)))))
  (ai (ao (pv 5)))))), ?_⟩
 obtain⟨b1,b2,b3,b4,b5,b6,b7⟩:=GA Lm;have okl:∀p∈x.1,Okl d p:=fun p hp=>by
  obtain⟨o1,o2,o3,o4,o5⟩:=oq.mp (b1 p hp);exact⟨o1,by lia,by lia,o3⟩
 have elen:=kt d x.1 okl;refine⟨_,rfl,_,rfl,d,v,x.1,rfl,by lia,d5,hv,okl,fun el H1 s1 nel hel=> ?_⟩;refine⟨_,rfl,_,_,rfl,rfl,el,_,_, .int (thF d (f+1) x.1),rfl,rfl,SqL.of hel,fT (j:=f) (by lia) (by rw[nZ (by lia)];rfl), ?_⟩;unfold dG at kk;generalize thF d (f+1) x.1=th at b3 b4 b7 kk⊢;obtain⟨n,rfl⟩:=B1 b3;refine⟨AQ _,fun fo H2 nf s2 KU=> ?_⟩;have Ms:H fo=none:=s1.free nf;have L0:=s1.trans s2;refine⟨_,rfl,_,rfl,_,rfl,_,rfl,d,f+1,n,x.2,rfl,by lia,d5,by lia,fun l0 H3 s3 NJ Mj=> ?_⟩;refine⟨_,rfl,_,rfl, .ref l0,cY ((f+1:Nat):Int) (d-(f+1)) n x.2,(n:Int),x.2,rfl,Mj,fun p hp=> ?_,by lia,by lia, ?_, ?_,by decide,fun rl H4 s4 Ls Lz=> ?_⟩
 .obtain⟨e1,e2,e3,e4,e5⟩:=om hp;exact⟨by lia,by lia,by lia,by lia⟩
 .exact B7 b7 (by decide)
 .have:=oj ((f+1:Nat):Int) n x.2 (d-(f+1));have:(d-(f+1))*n<=5*8:=C8 (by lia) (by lia);lia
 have eL:cu 8 (cY ((f+1:Nat):Int) (d-(f+1)) n x.2) (n:Int) x.2=gf d (f+1) n x.2:=by unfold gf;rw[An]
 have N2:∀r∈gf d (f+1) n x.2,r.length<=8/\0<=(r.map (·.2.2)).sum/\(r.map (·.2.2)).sum<=(n:Int)/\∀p∈r,Lok p:=fun r hr=>by
  rw[<-eL] at hr;obtain⟨i1,i2,i3,i4⟩:=on (fun q hq=>(om hq).2.2.2.1) (by lia) hr;exact⟨i1,i2,i3,fun p hp=>by
   obtain⟨e1,e2,e3,e4,e5⟩:=om (i4 p hp);exact⟨by lia,by lia,by lia,by lia⟩⟩
 rw[eL] at Lz;generalize gf d (f+1) n x.2=L at Lz N2 kk b7;have KH:=L0.trans s3;have Kh:H3 fo=some (.lst []):=s3 _ _ KU;have M3:H4 fo=some (.lst []):=s4 _ _ Kh;obtain⟨_,KF,e,Mh,KW⟩:=aB Lz;cases e;have M4:H4 rl=some (.lst KF):=bE _ _ Mh;have Mi:rl≠fo:=by rintro rfl;rw[Kh] at Ls;cases Ls
 have KG:KF.length=L.length:=by rw[KW.length,A1]
 have M0:Iss (hid H4 fo) (L.map lfs) KF:=(KW.mono (i8 (ae.refl H3) Kh)).mono (dq bE);have s04:=KH.trans s4;refine⟨rl,rfl,⟨_,SqL.of M4⟩,bP (xs:=KF) (fun j σ H5=>(∃v6 v7 v8,σ=[some (.int d),some (.int ((f+1:Nat):Int)),some v,some (.int x.2),some (.int n),some (.ref fo),v6,v7,v8])/\ae H H5/\But fo H4 H5/\Acc H H5 fo ((((L.take j).filter fun ls=>decide (0<=fe d (f+1) n x.2 ls)).map fun ls=>(x.1++ls,fe d (f+1) n x.2 ls)).map stD)) ⟨⟨none,none,none,rfl⟩,s04,fun _ _ e _=>e,Acc.start M3⟩ (fun j σ H5 _ h=>SqL.of (h.2.2.1 _ _ M4 Mi)) ?_ ?_⟩
 .rintro j y σ H5 hj ⟨⟨v6,v7,v8,rfl⟩,s5,OD,MY,Kr,MZ⟩;obtain⟨r,K3,hy⟩:=bd M0 hj;have hy5:Is H5 (lfs r) y:=hy.mono (pq OD);obtain⟨i1,i2,i3,i4⟩:=N2 r (AV K3);obtain⟨ya,ys,rfl,hya,hyi⟩:=aB hy5;have ylen:ys.length=r.length:=by rw[hyi.length,A1]
  have vl:MY.length<=200:=by
   rw[MZ.length,A1,A1];refine B7 (Br _ _) ?_;rw[Ac];lia
  refine⟨_,rfl,_,rfl,ya,rfl,⟨_,SqL.of hya⟩,fun acc na=> ?_⟩;refine dk (xs:=ys) (own:=1) (js:=[]) (fun i H6=>ae H5 H6/\H6 acc=some (.lst (((r.take i).map (·.2.2)).map V.int))) ⟨ae.new na,ak⟩ (fun i H6 _ h=>SqL.of (h.1 _ _ hya)) ?_ ?_ ci cr ?_
  .rintro i z H6 hz ⟨s6,Kc⟩;obtain⟨p,Ky,hzi⟩:=bd hyi hz;refine dm ?_;refine⟨_,rfl,_,2,_,hzi.mono s6,rfl,rfl,fun u hu=> ?_⟩;rw[az hu];refine⟨acc,_,_,rfl,rfl,Kc,aA ?_,s6.put na, ?_⟩
   .rw [A1,A1,Ac];lia
   .rw [ak,AN,Ky,A5,A5];rfl
  .rintro H6 ⟨s6,Kc⟩;rw[ylen,AR] at Kc;refine⟨acc,_,rfl,SqL.of Kc,_,_,rfl,rfl, ?_⟩;clear Kc;refine⟨_,rfl,_,rfl,ya,rfl,⟨_,SqL.of (s6 _ _ hya)⟩,fun ac2 na2=> ?_⟩;refine dk (xs:=ys) (own:=1) (js:=[]) (fun i H7=>ae H6 H7/\H7 ac2=some (.lst (((r.take i).map aV).map V.int))) ⟨ae.new na2,ak⟩ (fun i H7 _ h=>SqL.of (h.1 _ _ (s6 _ _ hya))) ?_ ?_ ci cr ?_
   .rintro i z H7 hz ⟨s7,Kc⟩;obtain⟨p,Ky,hzi⟩:=bd hyi hz;refine dm ?_;refine⟨_,rfl,z,p,rfl,(hzi.mono s6).mono s7,i4 p (AV Ky),ac2,_,_,rfl,rfl,Kc,aA ?_,s7.put na2, ?_⟩
    .rw [A1,A1,Ac];lia
    .rw [ak,AN,Ky,A5,A5];rfl
   .rintro H7 ⟨s7,Kc⟩;rw[ylen,AR] at Kc;have MG:=s6.trans s7;refine⟨ac2,_,rfl,SqL.of Kc,_,_,rfl,rfl,_,rfl,_,rfl,_,rfl,_,_,rfl,rfl,_,_,rfl,rfl, .inr ⟨by lia,by lia⟩,_,_,rfl,rfl, ?_⟩;refine⟨_,rfl,_,_,rfl,rfl,_,rfl,aX (fun c=> ?_) (fun c=> ?_)⟩
    .have hv7:Is H7 (lfs x.1) v:=(hv.mono s5).mono MG;refine⟨_,rfl, .inl ⟨rfl,_,SqL.of (MG _ _ Kr)⟩,_,rfl,_,rfl,x.1.map lf,r.map lf,hv7,hy5.mono MG,Ae (aA (by rw[A1,A1];lia)),fun q1 H8 n8 s8 h8=>⟨_,rfl,(zB rfl),fun t H9 nt s9 ht=> ?_⟩⟩;have s59:=MG.trans (s8.trans s9);refine⟨fo,MY,_,rfl,rfl,s59 _ _ Kr,aA (by lia),⟨_,_,_,rfl⟩,(s5.trans s59).put Ms,OD.trans ((But.of_same s59).trans But.upd), ?_⟩;rw[AN,K3,BG];have ef:(Option.toList (some r)).filter (fun ls=>decide (0<=fe d (f+1) n x.2 ls))=[r]:=by
      have c':0<=fe d (f+1) n x.2 r:=c;simp[c']
     rw[ef,A5,A5];rw[<-A5] at h8;have isx:Is (nw H5 H9) (stD (x.1++r,fe d (f+1) n x.2 r)) (.ref t):=bw (by rw[bV ((MG.trans s8).free nt)];exact ht) (am (og s59 (MG.free n8) (Is.mono (s:=s9) h8)) (am bv ap));exact Acc.add s5 s59 Kr MZ isx
    .refine⟨⟨_,_,_,rfl⟩,s5.trans MG,OD.trans (But.of_same MG), ?_⟩;rw[AN,K3,BG];have ef:(Option.toList (some r)).filter (fun ls=>decide (0<=fe d (f+1) n x.2 ls))=[]:=by
      have c':¬0<=fe d (f+1) n x.2 r:=c;simp[c']
     rw[ef,B5];exact Acc.mono MG ⟨MY,Kr,MZ⟩
   .rintro σ H R R' k ⟨v1,e1,v2,p,e2,h1,h2,h⟩;exact⟨v1,e1,v2,p,e2,h1,h2,k _ _ h⟩
  .rintro σ H R R' k ⟨v1,e1,xs,i,d,h1,e2,e3,h⟩;exact⟨v1,e1,xs,i,d,h1,e2,e3,fun u hu=>k _ _ (h u hu)⟩
 .rintro σ H5 ⟨⟨v6,v7,v8,rfl⟩,s5,_,Kc⟩;rw[KG,AR] at Kc;exact⟨_,rfl,kk fo H5 s5 Ms (Kc.is Ms)⟩
theorem I9:FnOk P w K mg base (CX0) 11 T.f12 T.d12 ["d","k"] spDrP:=by
 refine FbO T.X12 fX fun _ _ _ _ H vs Q E hr h=> ?_;obtain⟨d,k,rfl,hW,⟨g1,g3,g6⟩,kk⟩:=h;refine⟨_,(aj (aT (pcq (pO T) hr T.X3 (ab (pv 0) (ab (pv 1) af))))
  (aj (pSA (i:=2) fX.nd (aN (ab (aZ (ab (aN af) (ab (pv 1) af))) af)))
  (aj (aL AO rfl (cS (by rfl) T.n_range (ab ag (ab (ah aC (pv 0) ag) af))) (pGA (i:=3) fX.nd) (aj (pSA (i:=4) fX.nd (aN af))
  (aj (aL AO rfl (aY (pv 2)) (cA rfl (aO (pGA (i:=5) fX.nd) (aO (pGA (i:=6) fX.nd) b0))) (ai (aT (bQ Aa Bc Bb fN (pv 4) (ab (pcq (I8 T) hr T.X11 (ab (pv 0) (ab (pv 3) (ab (pv 5) (ab (pv 6) af))))) af)))))
  (ai (pSA (i:=2) fX.nd (pv 4))))))
  (ai (ao (bi (lZ hr) (by rfl) T.n_sorted boot_sorted (ab (cq (XN:=["d","k","begun","floor","longer","drawing","spare"]) (sc:=al jU) (N:=["drawing","spare"]) (own:=2) (js:=[]) rfl (by ac_nf) rfl rfl (aY (pv 2)) (fun _ _ _ _=>(jK (K:=K) rfl rfl (aO (bm (i:=0) (show List.Nodup (["drawing","spare"]:O4 Str) by ac_nf) rfl (Or.inl rfl) (.inr rfl)) (aO (bm (i:=1) (show List.Nodup (["drawing","spare"]:O4 Str) by ac_nf) rfl (Or.inl rfl) (.inr rfl)) b0)))) lH (fun _ _ _ _=>(iD (aM cn (pv 1) ag (aF _)))) (fun _ _ _ _=>(pv 0))) af))))))), ?_⟩
 refine⟨_,rfl,_,rfl,d,k,rfl,hW, ?_⟩;obtain⟨gA,gB⟩:=GB g1;have d15:1<=d/\d<=5:=by unfold Wide at hW;lia
 refine⟨AQ _,fun e0 H1 ne0 s1 he0=>⟨_,rfl,(zB rfl),fun t0 H2 nt0 s2 ht0=>⟨(zB rfl),fun bg H3 nb s3 OE=> ?_⟩⟩⟩;have KH:=(s1.trans s2).trans s3;have nbH:H bg=none:=(s1.trans s2).free nb;have is0:Is (nw H H3) (.l ((bO d k 0).map stD)) (.ref bg):=aD (by rw[bV nbH];exact OE) (am (bw (by rw[bV (s1.free nt0)];exact s3 _ _ ht0) (am (aD (vs:=[]) (by rw[bV ne0];exact s3 _ _ (s2 _ _ he0)) ap) (am bv ap))) ap);refine⟨_,rfl,_,_,rfl,rfl,_,_,rfl,⟨by decide,by decide,by lia,by lia⟩, ?_⟩;rw[show((d:Int)+1-1).toNat=d by lia];refine cJ (lo:=1) (n:=d) (fun f σ H4=>∃bg,(∃v3 v4 v5 v6,σ=[some (.int d),some (.int k),some (.ref bg),v3,v4,v5,v6])/\ae H H4/\Is (nw H H4) (.l ((bO d k f).map stD)) (.ref bg)) ⟨bg,⟨none,none,none,none,rfl⟩,KH,is0⟩ ?_ ?_
 .clear is0 KH nbH OE;rintro f σ H4 hf ⟨bg,⟨v3,v4,v5,v6,rfl⟩,s4,OE⟩;obtain⟨Lm,Ke⟩:=gA f hf;refine⟨AQ _,fun lo H5 nlo s5 hlo=> ?_⟩;have hbg4:=OE.mono bE;obtain⟨_,bvs,e,hb4,hbi⟩:=aB hbg4;cases e;have OF:bvs.length=(bO d k f).length:=by rw[hbi.length,A1]
  refine⟨_,rfl,bg,rfl,⟨_,SqL.of (s5 _ _ hb4)⟩,bP (xs:=bvs) (fun j σ H6=>(∃v5 v6,σ=[some (.int d),some (.int k),some (.ref bg),some (.int (1+(f:Int))),some (.ref lo),v5,v6])/\ae H4 H6/\Acc H4 H6 lo ((((bO d k f).take j).flatMap fun x=>dG d (f+1) x.1 x.2).map stD)) ⟨⟨_,_,rfl⟩,s5,Acc.start hlo⟩ (fun j σ H6 _ h=>SqL.of (h.2.1 _ _ hb4)) ?_ ?_⟩
  .rintro j y σ H6 hj ⟨⟨v5,v6,rfl⟩,s6,OG,Mk,OH⟩;obtain⟨x,Ku,hy⟩:=bd hbi hj;obtain⟨t,u,rfl,ht,hu⟩:=vB (hy.mono s6);have e1:(1+(f:Int))=((f+1:Nat):Int):=by lia
   have tk:(((bO d k f).take (j+1)).flatMap fun x=>dG d (f+1) x.1 x.2)=(((bO d k f).take j).flatMap fun x=>dG d (f+1) x.1 x.2)++dG d (f+1) x.1 x.2:=by
    rw[AN,Ku,BF];simp
   have vl:OG.length+(dG d (f+1) x.1 x.2).length<=900:=by
    rw[OH.length,A1];have hjl:j<(bO d k f).length:=(AD.mp Ku).1;have:(((bO d k f).take (j+1)).flatMap fun x=>dG d (f+1) x.1 x.2).length<=(bO d k (f+1)).length:=by
     show _<=((bO d k f).flatMap fun x=>dG d (f+1) x.1 x.2).length
     conv=>rhs;rw[<-D3 (j+1) (bO d k f)]
     rw[BF,A'];lia
    rw[tk,A'] at this;lia
   refine⟨t,_,rfl,SqT.of ht,rfl,_,_,rfl,_,_,rfl,rfl, ?_⟩;refine⟨_,rfl, .inl ⟨rfl,_,SqL.of Mk⟩,_,rfl,_,rfl,_,rfl,_,rfl,d,f,u,x,by rw[e1];rfl,hf,d15.2,hu,Lm x (AV Ku),fun wl H7 s7 nwl hwl=> ?_⟩;obtain⟨_,us,e,hwl',hwi⟩:=aB hwl;cases e;have ul:us.length=(dG d (f+1) x.1 x.2).length:=by rw[hwi.length,A1]
   refine⟨lo,wl,OG,us,rfl,rfl,s7 _ _ Mk,bE _ _ hwl',Ae (aA (by lia)),⟨_,_,rfl⟩,(s6.trans s7).put nlo, ?_⟩;rw[tk,A5];exact Acc.adds s6 s7 Mk OH hwi
  .rintro σ H6 ⟨⟨v5,v6,rfl⟩,s6,Kc⟩;rw[OF,AR] at Kc;exact⟨_,rfl,lo,⟨_,_,_,_,rfl⟩,s4.trans s6,(Kc.is nlo).mono (kw s4)⟩
 .clear is0 KH nbH OE;rintro σ H4 ⟨bg,⟨v3,v4,v5,v6,rfl⟩,s4,OE⟩;obtain⟨_,bvs,e,hb4,hbi⟩:=aB OE;cases e;have hb4':=bE _ _ hb4;have OF:bvs.length=(bO d k d).length:=by rw[hbi.length,A1]
  refine⟨_,rfl,bg,rfl,⟨_,SqL.of hb4'⟩,fun acc na=> ?_⟩;refine dk (xs:=bvs) (own:=2) (js:=[]) (fun j H5=>ae H4 H5/\∃vs,H5 acc=some (.lst vs)/\Iss (nw H H4) (((((bO d k d).take j).filter fun x=>decide (x.2=0)).map (·.1)).map lfs) vs) ⟨ae.new na,[],ak,ap⟩ (fun j H5 _ h=>SqL.of (h.1 _ _ hb4')) ?_ ?_ lI ?_ ?_
  .rintro j y H5 hj ⟨s5,vs,Kc,hi⟩;obtain⟨x,Ku,hy⟩:=bd hbi hj;obtain⟨t,u,rfl,ht,hu⟩:=vB hy;have vl:vs.length<=900:=by
    rw[hi.length,A1,A1];refine B7 (Br _ _) ?_;rw[Ac];obtain⟨d',rfl⟩:∃d',d=d'+1:=⟨d-1,by lia⟩;have:=(gA d' (by lia)).2;lia
   refine⟨t,_,rfl,SqT.of (s5 _ _ (bE _ _ ht)),rfl,_,_,rfl,_,_,rfl,rfl, ?_⟩;refine⟨_,rfl,rfl,_,rfl,cM (fun c=> ?_) (fun c=> ?_)⟩
   .refine⟨_,rfl,acc,vs,_,rfl,rfl,Kc,aA (by lia),s5.put na,_,ak, ?_⟩;rw[AN,Ku,BG];have ef:(Option.toList (some x)).filter (fun x=>decide (x.2=0))=[x]:=by simp[c]
    rw[ef,A5,A5];exact hi.append (am hu ap)
   .refine⟨s5,vs,Kc, ?_⟩;rw[AN,Ku,BG];have ef:(Option.toList (some x)).filter (fun x=>decide (x.2=0))=[]:=by simp[c]
    rw[ef,B5];exact hi
  .rintro H5 ⟨s5,vs,Kc,hi⟩;rw[OF,AR] at hi;have hi:Iss (nw H H4) ((cP d k).map lfs) vs:=hi;have LG:=s4.trans s5;have hv5:Iss H5 ((cP d k).map lfs) vs:=(hi.mono bE).mono s5;have LX:vs.length=(cP d k).length:=by rw[hi.length,A1]
   refine vT Kc hv5 (fun x v h=>let ⟨a,ys,e1,e2,_⟩:=aB h;⟨a,ys,e1,e2⟩) (fun _ _ _ _ h h'=>uu h h') g3 g6 fun p q pp nq=> ?_;refine kk (p.map fun i=>(cP d k).getD i []) q _ (vU pp) (LG.put (LG.free nq)) (LG.free nq) ?_;exact aD (by rw[bV (LG.free nq)];exact ak) ((oM [] hi p fun i h=>AW.mp (pp.mem_iff.mp h)).mono (eA (s5.trans (ae.new nq))))
  .rintro σ H R R' k' ⟨v1,e1,e2,b,e3,h⟩;exact⟨v1,e1,e2,b,e3,k' _ _ h⟩
  .rintro σ H R R' k' ⟨v1,e1,h⟩;exact⟨v1,e1,k' _ _ h⟩
theorem Ja:OKQ T.X7 P w base 5 spSou:=by
 refine FbO T.X7 FS fun _ _ _ _ H vs Q E hr h=> ?_;obtain⟨n,dv,ps,rfl,n1,n5,hd,hs,kk⟩:=h;refine⟨_,(ai (ao (eO ix (bi (zG rfl) (by rfl) T.n_min boot_min (ab (pcq (pP T) hr T.X6 (ab (pv 0) (ab (pv 1) af))) af)) ag (aF _)))), ?_⟩;refine⟨_,rfl,_,rfl,n,dv,ps,rfl,n1,n5,hd,hs.okl,fun l H1 s1 nl hl=> ?_⟩;refine⟨l,_,rfl,SqL.of hl,by rw[kt n ps hs.okl];lia,_,_,rfl,rfl, ?_⟩;show Q (.bl (decide (0<=iK (bI n ps)))) H1;rw[Ag (Io hs.ends)];exact kk H1 s1
theorem Jb:OKQ T.X16 P w base 6 spNeS:=by
 refine FbO T.X16 FV fun _ _ _ _ H vs Q E hr h=> ?_;obtain⟨n,dv,ps,rfl,n1,n5,hd,hs,kk⟩:=h;refine⟨_,(aj (aT (pcq (jn T) hr T.X4 (ab (pv 0) af)))
  (ai (aU (fI (dQ (pcq (Ja T) hr T.X7 (ab (pv 0) (ab (pv 1) af))))) (ai jv) aS))), ?_⟩
 exact⟨_,rfl,n,rfl,by lia,by lia,_,rfl,_,rfl,n,dv,ps,rfl,n1,n5,hd,hs,fun H1 s1=>⟨true,rfl,bn (kk H1 s1)⟩⟩
theorem Jc:OKQ T.X17 P w base 5 spEnM:=by
 refine FbO T.X17 jX fun _ _ _ _ H vs Q E hr h=> ?_;obtain⟨n,dv,ps,rfl,n1,n5,hd,hs,Ke,kk⟩:=h;refine⟨_,(aj (pSA (i:=2) jX.nd (aN af))
  (aj (aL AO rfl (jH (by rfl) T.n_enumerate (pcq (pP T) hr T.X6 (ab (pv 0) (ab (pv 1) af)))) (cA rfl (aO (pGA (i:=3) jX.nd) (aO (pGA (i:=4) jX.nd) b0))) (ai (aT (bQ Aa Bc Bb fN (pv 2) (ab (ah gG (aN (ab (aZ (ab (ah aC (pv 3) ag) (ab (ah aC (pv 0) ag) (ab ag af)))) af)) (pv 4)) af)))))
  (ai (ao (pv 2))))), ?_⟩
 refine⟨AQ _,fun fo H1 nf s1 KU=> ?_⟩;refine⟨_,rfl,_,rfl,n,dv,ps,rfl,n1,n5,hd.mono s1,hs.okl,fun e H2 s2 ne he=> ?_⟩;have el:=kt n ps hs.okl;have efo:e≠fo:=by rintro rfl;rw[KU] at ne;cases ne
 refine⟨e,rfl,⟨_,SqL.of he⟩,lD (xs:=(bI n ps).map V.int) (fun i σ H3=>(∃v3 v4,σ=[some (.int n),some dv,some (.ref fo),v3,v4])/\ae H H3/\H3 e=some (.lst ((bI n ps).map V.int))/\∃vs,H3 fo=some (.lst vs)/\Iss H3 (((List.range i).flatMap (fB n (bI n ps))).map lf) vs)
  ⟨⟨none,none,rfl⟩,s1.trans s2,he,[],s2 _ _ KU,ap⟩ (fun i σ H3 _ h=>SqL.of h.2.2.1) ?_ ?_⟩
 .rintro i x σ H3 p hx ⟨⟨v3,v4,rfl⟩,s3,he3,vs,hf3,hi3⟩ np;rw[AF] at hx;obtain⟨x,Ku,rfl⟩:=AC.mp hx;have hi:i<n:=by have:=(AD.mp Ku).1;lia
  have ex:(bI n ps).getD i 0=x:=by rw[List.getD,Ku];rfl
  have x0:0<=x:=by rw[<-ex];exact hs.ends i
  have pre:((List.range i).flatMap (fB n (bI n ps))).length+x.toNat<=20:=by
   have:=ja (fB n (bI n ps)) hi;have e2:(fB n (bI n ps) i).length=x.toNat:=by unfold fB;rw[B2,ex]
   unfold ff at Ke;lia
  refine⟨p,_,rfl,SqT.of ak,rfl,_,_,rfl,_,_,rfl,rfl, ?_⟩;have s4:ae H3 (upd H3 p (.tup [.int i, .int x])):=ae.new np;generalize upd H3 p (.tup [.int i, .int x])=H4 at s4⊢;refine⟨_,rfl, .inl ⟨rfl,_,SqL.of (s4 _ _ hf3)⟩,_,rfl,_,_,rfl,rfl,_,rfl,_,_,rfl,rfl,(zB rfl),fun t H5 nt s5 ht=>⟨(zB rfl),fun l1 H6 n6 s6 h6=> ?_⟩⟩;have M5:Is H6 (lf (1+(i:Int),(n:Int)+1,1)) (.ref t):=eZ (s6 _ _ (by rw[ht];show some (HO.tup [V.int ((i:Int)+1),_,_])=_;rw[Int.add_comm]));refine⟨_,rfl,lf (1+(i:Int),(n:Int)+1,1),x,aD h6 (am M5 ap),rfl,by lia,by lia,Ae (aA (by lia)),fun l2 H7 n7 s7 h7=> ?_⟩;obtain⟨_,us,e2,K0,Ly⟩:=aB h7;cases e2;have s47:ae H3 H7:=((s4.trans s5).trans s6).trans s7;have hf7:=s47 _ _ hf3;have ul:us.length=x.toNat:=by rw[Ly.length,B2]
  have vl:=hi3.length;rw[A1] at vl;refine⟨fo,l2,vs,us,rfl,rfl,hf7,K0,Ae (aA (by lia)),⟨_,_,rfl⟩,(s3.trans s47).put nf,by rw[ax efo];exact s47 _ _ he3,_,ak, ?_⟩;rw[cQ,A5];refine(vC s47 hf3 hi3).append (vC (ae.refl H7) hf7 ?_);have:(fB n (bI n ps) i).map lf=List.replicate x.toNat (lf (1+(i:Int),(n:Int)+1,1)):=by unfold fB;rw[ex,Bu]
  rw[this];exact Ly
 .rintro σ H3 ⟨⟨v3,v4,rfl⟩,s3,he3,vs,hf3,hi3⟩;rw[A1,el] at hi3;exact⟨_,rfl,kk fo H3 s3 nf (aD hf3 hi3)⟩
theorem pQ:OKQ T.X5 P w base 1 spCho:=by
 refine FbO T.X5 jS fun _ _ _ _ H vs Q E hr h=> ?_;obtain⟨n,k,rfl,h1,h2,kk⟩:=h;refine⟨_,(aj (aU (fm (aM cK (pv 1) ag (aF _)) (gm (aM dR (pv 1) (pv 0) (aF _)))).pt (ai (ao ag)) aS)
  (aj (pSA (i:=2) jS.nd ag)
  (aj (aL AO rfl (fq (by rfl) T.n_range (ab (pv 1) af)) (pGA (i:=3) jS.nd) (ai (pSA (i:=2) jS.nd (ah k9 (ah bC (pv 2) (ah aK (pv 0) (pv 3))) (ah aC (pv 3) ag)))))
  (ai (ao (pv 2)))))), ?_⟩
 refine⟨_,rfl,_,_,rfl,rfl,_,rfl,aX (fun h=>absurd h (by lia)) (fun _=> ?_)⟩;refine⟨_,rfl,_,rfl,_,_,rfl,rfl,_,rfl,aX (fun h=>absurd h (by lia)) (fun _=> ?_)⟩;refine⟨_,rfl,(k:Int),rfl,by lia,by lia,cJ (lo:=0) (n:=(k:Int).toNat) (fun i σ H2=>(∃v3,σ=[some (.int n),some (.int k),some (.int (chF n i)),v3])/\H2=H) ⟨⟨none,rfl⟩,rfl⟩ ?_ ?_⟩
 .rintro i σ H2 hi ⟨⟨v3,rfl⟩,rfl⟩;refine⟨_,rfl,_,rfl,_,rfl,_,_,rfl,rfl,_,_,rfl,rfl, .inr ⟨by lia,by lia⟩,_,rfl,_,_,rfl,rfl,_,_,rfl,rfl,⟨by lia,by lia⟩,⟨some (.int (0+(i:Int))), ?_⟩,rfl⟩;rw[show chF n (i+1)=chF n i*(n-(0+(i:Int)))/((0+(i:Int))+1) by rw[Cv];rfl];rfl
 .rintro σ H2 ⟨⟨v3,rfl⟩,rfl⟩;rw[An];exact⟨_,rfl,kk⟩
theorem jo:OKQ T.X14 P w base 1 spWm:=by
 refine FbO T.X14 FU fun _ _ _ _ H vs Q E hr h=> ?_;obtain⟨v,t,p,m,rfl,hv,hp,hl,kk⟩:=h;refine⟨_,(ai (ao (ah mo (ah mo (dA tH (pv 0) dU (dh (pv 1))) (aZ (ab (ah aC (aw aG (pv 0) (pv 1) (fun _ _=>rfl)) (pv 2)) af))) (dA tH (pv 0) (dh (ah aC (pv 1) ag)) dU)))), ?_⟩;have Ke:∀vs:O4 V,vs.length=(t.map D.i).length->vs.length=t.length:=fun vs e=>by rw[e,A1]
 refine⟨_,rfl,_,rfl,(p:Int),rfl,t.map .i,(t.take p).map .i,hv,Iw,fun vs e h=> ?_,fun u1 H1 s1 KR=> ?_⟩
 .have e:=Ke vs e;rw[HT.sIx_nat] at h;lia
 refine⟨_,rfl,_,rfl,t.map .i,(p:Int), .i (t.getD p 0),hv.mono s1,rfl, ?_,fun u hu=> ?_⟩
 .refine fT (j:=p) rfl ?_;rw[AF,A2 hp];simp[List.getD,hp]
 rw[az hu];refine⟨_,rfl,_,_,rfl,rfl,(zB rfl),fun q2 H2 n2 s2 h2=> ?_⟩;have Lj:Is H2 (.t [.i (t.getD p 0+m)]) (.ref q2):=bw h2 (am bv ap);refine⟨_,_,KR.mono s2,Lj,Ae (aA (by rw[A1,Ac];show _+1<=1000;lia)),fun u3 H3 s3 hu3=> ?_⟩;refine⟨_,rfl,_,rfl,_,_,rfl,rfl,(p:Int)+1,rfl,t.map .i,(t.drop (p+1)).map .i,((hv.mono s1).mono s2).mono s3, ?_,fun vs e h=> ?_,fun u4 H4 s4 hu4=> ?_⟩
 .rw [show((p:Int)+1)=((p+1:Nat):Int) by lia];exact Ix (by lia)
 .have e:=Ke vs e;rw[show((p:Int)+1)=((p+1:Nat):Int) by lia,HT.sIx_nat] at h;lia
 refine⟨_,_,hu3.mono s4,hu4,Ae (aA (by rw[A',A1,A1,Ac,Bk];show _+1+_<=1000;lia)),fun u5 H5 s5 hu5=> ?_⟩;refine kk u5 H5 ((((s1.trans s2).trans s3).trans s4).trans s5) ?_;have e:(t.take p).map D.i++[D.i (t.getD p 0+m)]++(t.drop (p+1)).map D.i=(wmF t p m).map D.i:=by
  unfold wmF;rw[<-GH hp,A5,A5];rfl
 rw[e] at hu5;exact hu5
theorem v0:∀n:Nat,FnOk P w K mg base CX0 (n+2) T.f18 T.d18 ["numbers","first","last","alike"] (spPB n K)
 |0=>⟨fun vs H Q E h=>(by obtain⟨_,_,_,_,_,_,_,h,_⟩:=h;exact absurd h (Nat.not_lt_zero _)),fun A outer s H args us vs Q E _ _ _ _ h=>(by obtain⟨_,_,_,_,_,_,_,h,_⟩:=h;exact absurd h (Nat.not_lt_zero _))⟩
 |n+1=>by
  have ih:=v0 n;refine T.X18.F.ok gR (fun vs H Q E h=> ?_) (fun Kz A outer s H vs Q E hr h=> ?_)
  .obtain⟨_,_,_,_,_,rfl,_⟩:=h;rfl
  .obtain⟨v,t,p,g,a,rfl,hv,hg,hn,hp,⟨kl,kn,ks⟩,kk⟩:=h;refine⟨_,(aj (aU (aM cn (pv 1) (pv 2) (aF _)) (ai (ao (aN (ab (aZ (ab (pcq (jo T) hr T.X14 (ab (pv 0) (ab (pv 1) (ab (pv 3) af))) (by lia)) (ab (pcq (pQ T) hr T.X5 (ab (ah aC (aw aG (pv 0) (pv 1) (fun _ _=>rfl)) (pv 3)) (ab (pv 3) af)) (by lia)) af))) af)))) aS)
   (aj (pSA (i:=4) gR.nd (aN af))
   (aj (aL AO rfl (fq (by rfl) T.n_range (ab (ah aC (pv 3) ag) af)) (pGA (i:=5) gR.nd) (aj (pSA (i:=6) gR.nd (pcq (pQ T) hr T.X5 (ab (ah aC (aw aG (pv 0) (pv 1) (fun _ _=>rfl)) (pv 5)) (ab (pv 5) af)) (by lia)))
   (ai (aL AO rfl (aY (dS ih hr (by rfl) T.X18.m T.X18.F.kp T.X18.B .nil dW (ab (pcq (jo T) hr T.X14 (ab (pv 0) (ab (pv 1) (ab (pv 5) af))) (by lia)) (ab (ah aC (pv 1) ag) (ab (pv 2) (ab (ah aK (pv 3) (pv 5)) af)))))) (cA rfl (aO (pGA (i:=7) gR.nd) (aO (pGA (i:=8) gR.nd) b0))) (ai (aT (bQ Aa Ax Aw cU (pv 4) (ab (aZ (ab (pv 7) (ab (ah bC (pv 6) (pv 8)) af))) af))))))))
   (ai (ao (pv 4)))))), ?_⟩
   have kp:=(gY kn).2 p;have kp0:=kn p;have at_p:∀{H':Hp},ae H H'->∀{v':V},Is H' (tI t) v'->atI (t.map D.i) (p:Int)=some (.i (t.getD p 0)):=fun _ _ _=>by
    refine fT (j:=p) rfl ?_;rw[AF,A2 (by lia)];simp[List.getD,show p<t.length by lia]
   refine⟨_,rfl,_,rfl,rfl,_,rfl,cM (fun e=> ?_) (fun e=> ?_)⟩
   .have hg0:g=0:=by lia
    subst hg0;refine⟨_,rfl,_,rfl,_,rfl,v,t,p,a,rfl,hv,by lia,kl,fun u1 H1 s1 KR=> ?_⟩;refine⟨_,rfl,_,rfl,t.map .i,(p:Int),_,hv.mono s1,rfl,at_p s1 (hv.mono s1),fun u hu=> ?_⟩;rw[az hu];refine⟨_,rfl,_,_,rfl,rfl,_,rfl,t.getD p 0+a,a,rfl,by lia,by lia, ?_⟩;refine⟨(zB rfl),fun q2 H2 n2 s2 h2=>⟨(zB rfl),fun q3 H3 n3 s3 h3=> ?_⟩⟩;have L0:=s1.trans s2;refine kk q3 H3 (L0.trans s3) (L0.free n3) (aD h3 (am ((pA (x:=(wmF t p (a:Int),chF (t.getD p 0+(a:Int)) a)) h2 (KR.mono s2)).mono s3) ap))
   .obtain⟨g,rfl⟩:∃g',g=g'+1:=⟨g-1,by lia⟩;refine⟨AQ _,fun fo H1 nf s1 KU=> ?_⟩;have big:=Iy (g:=g+1) (t:=t) (p:=p) (a:=a) (by lia) (by have:=(gY kn).1;lia);have a15:(a:Int)<=15:=by have:=(gY kn).1;lia
    refine⟨_,rfl,_,_,rfl,rfl,_,rfl,by lia,by lia, ?_⟩;rw[show((a:Int)+1).toNat=a+1 by lia];refine cJ (lo:=0) (n:=a+1) (fun h σ H2=>(∃v5 v6 v7 v8,σ=[some v,some (.int p),some (.int ((p:Int)+((g+1:Nat):Int))),some (.int a),some (.ref fo),v5,v6,v7,v8])/\ae H H2/\∃vs,H2 fo=some (.lst vs)/\Iss H2 (((List.range h).flatMap fun h:Nat=>(pbF g (wmF t p (h:Int)) (p+1) (a-h)).map fun x=>(x.1,chF (t.getD p 0+(h:Int)) h*x.2)).map prD) vs) ⟨⟨none,none,none,none,rfl⟩,s1,[],KU,ap⟩ ?_ ?_
    .rintro h σ H2 hh ⟨⟨v5,v6,v7,v8,rfl⟩,s2,ME,hf2,Ly⟩;rw[Cv];have hb:∀j,j<=(pbF g (wmF t p (h:Int)) (p+1) (a-h)).length->((List.range h).flatMap fun h:Nat=>(pbF g (wmF t p (h:Int)) (p+1) (a-h)).map fun x=>(x.1,chF (t.getD p 0+(h:Int)) h*x.2)).length+j<=1048576:=fun j hj=>by
      have:=ja (fun h:Nat=>(pbF g (wmF t p (h:Int)) (p+1) (a-h)).map fun x=>(x.1,chF (t.getD p 0+(h:Int)) h*x.2)) hh;rw[A1] at this;unfold pbF at big;lia
     rw[cQ];generalize ((List.range h).flatMap fun h:Nat=>(pbF g (wmF t p (h:Int)) (p+1) (a-h)).map fun x=>(x.1,chF (t.getD p 0+(h:Int)) h*x.2))=pr at Ly hb⊢;obtain⟨c1,c2⟩:=uD (n:=t.getD p 0+(h:Int)) (k:=h) (by lia) (by lia);refine⟨_,rfl,_,rfl,t.map .i,(p:Int),_,hv.mono s2,rfl,at_p s2 (hv.mono s2),fun u hu=> ?_⟩;rw[az hu];refine⟨_,rfl,_,_,rfl,rfl,_,rfl,t.getD p 0+(h:Int),h,rfl,by lia,by lia, ?_⟩;refine⟨_,rfl,_,rfl,_,rfl,v,t,p,(h:Int),rfl,hv.mono s2,by lia,kl,fun u3 H3 s3 hu3=> ?_⟩;refine⟨_,rfl,_,_,rfl,rfl,_,rfl,_,rfl,_,rfl,_,_,rfl,rfl,u3,wmF t p (h:Int),p+1,g,a-h, ?_,hu3,by lia,by lia,by rw[eC];lia,⟨by rw[eC];exact kl,fun i=> ?_, ?_⟩,fun rl H4 s4 Ls Lz=> ?_⟩
     .have e1:((p:Int)+1)=((p+1:Nat):Int):=by lia
      have e2:(p:Int)+((g+1:Nat):Int)=((p+1:Nat):Int)+(g:Int):=by lia
      have e3:(a:Int)-(h:Int)=((a-h:Nat):Int):=by lia
      show [u3,V.int ((p:Int)+1),V.int ((p:Int)+((g+1:Nat):Int)),V.int ((a:Int)-(h:Int))]=_;rw[e1,e2,e3]
     .rw [kz (by lia)];have:=kn i;split<;>lia
     .rw [kA (by lia)];lia
     obtain⟨_,KF,e,M4,KW⟩:=aB Lz;cases e;generalize pbF g (wmF t p (h:Int)) (p+1) (a-h)=O at KW hb⊢;have KG:KF.length=O.length:=by rw[KW.length,A1]
     have s24:=s3.trans s4;have hf4:=s24 _ _ hf2;have Mi:rl≠fo:=by rintro rfl;rw[s3 _ _ hf2] at Ls;cases Ls
     refine⟨rl,rfl,⟨_,SqL.of M4⟩,bP (xs:=KF) (fun j σ H5=>(∃v7 v8,σ=[some v,some (.int p),some (.int ((p:Int)+((g+1:Nat):Int))),some (.int a),some (.ref fo),some (.int h),some (.int (chF (t.getD p 0+(h:Int)) h)),v7,v8])/\ae H H5/\H5 rl=some (.lst KF)/\ay H4 H5/\∃vs,H5 fo=some (.lst vs)/\Iss H5 ((pr++(O.take j).map fun x=>(x.1,chF (t.getD p 0+(h:Int)) h*x.2)).map prD) vs) ⟨⟨_,_,rfl⟩,s2.trans s24,M4,ay.of_same (ae.refl H4),ME,hf4,by simpa using Ly.mono s24⟩ (fun j σ H5 _ h=>SqL.of h.2.2.1) ?_ ?_⟩
     .rintro j y σ H5 hj ⟨⟨v7,v8,rfl⟩,s5,Ml,t5,MY,NK,MZ⟩;obtain⟨x,Ku,hy⟩:=bd KW hj;have hjl:j<O.length:=(AD.mp Ku).1;obtain⟨q,u6,rfl,hq,hu6⟩:=pB (kS t5 hy);have vl:=MZ.length;rw[A1,A',A1,Ac] at vl;have hbj:=hb (j+1) (by lia);refine⟨q,_,rfl,SqT.of hq,rfl,_,_,rfl,_,_,rfl,rfl, ?_⟩;refine⟨_,rfl, .inl ⟨rfl,_,SqL.of NK⟩,_,rfl,_,rfl,_,rfl,_,_,rfl,rfl, .inl ⟨by lia,by lia⟩,(zB rfl),fun q6 H6 n6 s6 h6=> ?_⟩;refine⟨fo,MY,_,rfl,rfl,s6 _ _ NK,jh (by lia),⟨_,_,rfl⟩,(s5.trans s6).put nf,by rw[ax Mi];exact s6 _ _ Ml,(t5.trans (ay.of_same s6)).trans (ay.upd (s6 _ _ NK)),_,ak, ?_⟩;have ez:(pr++(O.take (j+1)).map fun x=>(x.1,chF (t.getD p 0+(h:Int)) h*x.2))=(pr++(O.take j).map fun x=>(x.1,chF (t.getD p 0+(h:Int)) h*x.2))++[(x.1,chF (t.getD p 0+(h:Int)) h*x.2)]:=by
       rw[AN,Ku,Option.toList_some,A5,BE];rfl
      rw[ez,A5];refine(vE ((ay.of_same s6).trans (ay.upd (s6 _ _ NK))) MZ).append ?_;exact am (kS (ay.upd (s6 _ _ NK)) (pA (x:=(x.1,chF (t.getD p 0+(h:Int)) h*x.2)) h6 (hu6.mono s6))) ap
     .rintro σ H5 ⟨⟨v7,v8,rfl⟩,s5,Ml,t5,MY,NK,MZ⟩;rw[KG,AR] at MZ;exact⟨⟨_,_,_,_,rfl⟩,s5,MY,NK,MZ⟩
    .rintro σ H2 ⟨⟨v5,v6,v7,v8,rfl⟩,s2,ME,hf2,Ly⟩;exact⟨_,rfl,kk fo H2 s2 nf (aD hf2 Ly)⟩
theorem wb:OKQ T.X19 P w base 9 spHMO:=by
 refine FbO T.X19 fy fun _ _ _ _ H vs Q E hr h=> ?_;obtain⟨d,v,mk,rfl,d1,d5,hv,⟨mok,mlen⟩,Ox,kk⟩:=h;refine⟨_,(aj (pSA (i:=2) fy.nd (ET (fO hr) (gu iJ (by rfl) T.n_tuple boot_tuple (ab (ah gG (aN (ab ag af)) (pv 0)) af)) ag))
  (aj (aL AO rfl (aY (ED (Ey hr) hr.hd (by rfl) T.n_sorted (by rfl) T.n_set (ab (pv 1) af))) (pGA (i:=3) fy.nd) (aj (pSA (i:=4) fy.nd qT)
  (aj (aL AO rfl (EQ (pv 2)) (pGA (i:=5) fy.nd) (ai (aL AO rfl (aY (pcq (v0 T 6) hr T.X18 (ab (pv 5) (ab (ah aK (aw aG (pv 3) ag (fun _ _=>rfl)) ag) (ab (ah aK (aw aG (pv 3) ag (fun _ _=>rfl)) ag) (ab (bQ Aa PySem.F.slot_list_count PySem.F.type_list_count (Ea hr) (pv 1) (ab (pv 3) af)) af)))))) (cA rfl (aO (pGA (i:=6) fy.nd) (aO (pGA (i:=7) fy.nd) b0))) (ai (qR (fO hr) (pv 4) (pv 6) (ah aC (yP (fO hr) (pv 4) (pv 6) ag ⟨rfl,rfl,rfl,rfl⟩) (ah bC (qQ (fO hr) (pv 2) (pv 5) (fun _ _=>rfl)) (pv 7))) rfl)))))
  (ai (pSA (i:=2) fy.nd (pv 4))))))
  (ai (ao (EV rfl (by rfl) T.n_sum (pv 2)))))), ?_⟩
 obtain⟨wa,NF,rfl,hwa,hwi⟩:=aB hv;have wlen:NF.length=mk.length:=by rw[hwi.length,A1]
 refine fun kd M6=> ?_;have s0:ae H (upd H kd (.dT [])):=ae.new M6;have OI:upd H kd (.dT []) kd=some (.dT []):=ak;generalize upd H kd (.dT [])=H0 at s0 OI⊢;refine⟨(zB rfl),fun l1 H1 n1 s1 h1=> ?_⟩;refine⟨_,rfl, .i 0,d,aD h1 (am bv ap),rfl,by lia,by lia,Ae (aA (by lia)),fun l2 H2 n2 s2 h2=> ?_⟩;refine⟨.ref l2,_,rfl,h2,fun t3 H3 n3 s3 h3=> ?_⟩;have KH:=(s1.trans s2).trans s3;have hkd3:=KH _ _ OI;rw[An] at h3;have ht3:H3 t3=some (.tup ((bq (List.replicate d 0)).map kV)):=by
  rw[<-Bu] at h3;obtain⟨a,e,ha⟩:=bM (xs:=List.replicate d 0) h3;cases e;rw[jb];exact ha
 refine⟨hkd3,bq (List.replicate d 0),t3,rfl,ht3, ?_⟩;have e0:bD ([]:O4 (O4 Key×V)) (bq (List.replicate d 0)) (.int 1)=bh [(List.replicate d 0,1)]:=oF [] _ _;rw[e0];have sH:ae H (upd H3 kd (.dT (bh [(List.replicate d 0,1)]))):=(s0.trans KH).put M6;have Mb:upd H3 kd (.dT (bh [(List.replicate d 0,1)])) kd=some (.dT (bh [(List.replicate d 0,1)])):=ak;generalize upd H3 kd (.dT (bh [(List.replicate d 0,1)]))=H4 at sH Mb⊢;clear h1 h2 h3 ht3 hkd3 KH s1 s2 s3 n1 n2 n3 OI s0 e0 H0 H1 H2 H3;have tab0:TabOk d 0 [(List.replicate d 0,(1:Int))]:=by
  refine⟨by simp,fun x hx=> ?_⟩;rw[AY.mp hx];refine⟨by simp,by simp,fun i=> ?_⟩;rw[A7,Co];split<;>simp
 refine⟨_,rfl, .ref wa,mk.map bx,3,rfl,by rw[<-uq];exact hv.mono sH,by decide,Im,Ox,fun Lb l0 H5 nd mem so NJ s5 hq=> ?_⟩;have ey:=GF nd mem so;subst ey;rw[<-uq] at hq;clear nd mem so;have hhm:bF [(List.replicate d 0,(1:Int))] (TF (fun m=>mk.count m) (c7 mk))=hmF d mk:=by
  simp[bF,hmF]
 have hS:∀m∈c7 mk,m∈mk:=fun m hm=>ow.mp hm;have hSn:=IB mk;generalize hcn:(fun m=>mk.count m)=cnt at hhm;generalize hmF d mk=tot at hhm kk;generalize c7 mk=S at hq hhm hS hSn;obtain⟨_,KI,e,Mj,Mf⟩:=aB hq;cases e;have LH:KI.length=S.length:=by rw[Mf.length,A1]
 refine⟨l0,rfl,⟨_,SqL.of Mj⟩,bP (xs:=KI) (fun i σ H6=>(∃kd D n,(∃v3 v4 v5 v6 v7,σ=[some (.int d),some (.ref wa),some (.ref kd),v3,v4,v5,v6,v7])/\H6 kd=some (.dT (bh D))/\TabOk d n D/\n=((S.take i).map cnt).sum/\bF D (TF cnt (S.drop i))=tot/\H kd=none)/\ae H H6/\H6 l0=some (.lst KI)/\ay H5 H6) ⟨⟨kd,_,0,⟨none,none,none,none,none,rfl⟩,s5 _ _ Mb,tab0,rfl,hhm,M6⟩,sH.trans s5,Mj,ay.of_same (ae.refl H5)⟩ (fun i σ H6 _ h=>SqL.of h.2.2.1) ?_ ?_⟩
 .rintro i y σ H6 hi ⟨⟨kd,D,n,⟨v3,v4,v5,v6,v7,rfl⟩,M7,tab,hn,Mw,M6⟩,s6,hl6,t6⟩;obtain⟨x,Ku,hy⟩:=bd Mf hi;have NG:i<S.length:=(AD.mp Ku).1;have exi:S[i]=x:=(AD.mp Ku).2;obtain⟨ya,rfl,hya⟩:=eY hy;obtain⟨o1,o2,o3⟩:=mok x (hS x (AV Ku));have NS:((S.take (i+1)).map cnt).sum=n+cnt x:=by
   rw[AN,Ku,A5,CD,<-hn];simp
  have hn15:n+cnt x<=15:=by
   have:=uP mk (S.take (i+1)) (hSn.sublist (List.take_sublist _ _));rw[hcn,NS] at this;lia
  rw[Ar NG,exi,IC] at Mw;obtain⟨p,hp⟩:∃p:Nat,x.1-1=(p:Int):=⟨(x.1-1).toNat,by lia⟩;obtain⟨g,hg⟩:∃g:Nat,x.2.1-x.1-1=(g:Int):=⟨(x.2.1-x.1-1).toNat,by lia⟩;rw[hp,hg,An,An] at Mw;have rok:oz p d n (n+cnt x) (spR g (cnt x)):=fun r hr=>by
   obtain⟨e1,e2⟩:=oy hr;exact⟨by lia,by lia⟩
  obtain⟨tab',sum'⟩:=oB rok (TF cnt (S.drop (i+1))) tab.key (acc:=[]) ⟨by simp,fun x hx=>nomatch hx⟩;refine fun f nf=> ?_;have s7:ae H6 (upd H6 f (.dT [])):=ae.new nf;have hf7:upd H6 f (.dT []) f=some (.dT (bh [])):=ak;have Ms:H f=none:=s6.free nf;have fkd:f≠kd:=by rintro rfl;rw[M7] at nf;cases nf
  generalize upd H6 f (.dT [])=H7 at s7 hf7⊢;refine⟨_,rfl,kd,bh D,rfl, .inl (s7 _ _ M7),fun o H8 hk8 M8=> ?_⟩;have l8:LTS H7 H8:=LTS.rd (.inl (s7 _ _ M7)) M8;have s8:ae H H8:=fun b u e=>by rw[M8 b (by rintro rfl;rw[M6] at e;cases e)];exact s7 _ _ (s6 _ _ e)
  refine ER (fun j σ H9=>(∃v5 v6 v7,σ=[some (.int d),some (.ref wa),some (.ref kd),some (.ref ya),some (.ref f),v5,v6,v7])/\ae H H9/\H9 kd=some (.frz o (.dT (bh D)))/\H9 l0=some (.lst KI)/\ay H5 H9/\H9 f=some (.dT (bh (stP p (spR g (cnt x)) (D.take j) [])))) ⟨⟨_,_,_,rfl⟩,s8,hk8,l8.1 _ _ (s7 _ _ hl6),(t6.trans (ay.of_same s7)).trans l8.2,by rw[M8 f fkd];exact hf7⟩ (fun j σ H9 _ h=>h.2.2.1) ?_ ?_
  .rintro j k c b σ H9 hj ⟨⟨v5,v6,v7,rfl⟩,s9,hk9,hl9,t9,N3⟩ hb;unfold bh at hj;rw[AF] at hj;obtain⟨⟨t,cv⟩,hD,ekc⟩:=AC.mp hj;simp only[D8] at ekc;obtain⟨rfl,rfl⟩:=ekc;rw[jb] at hb;have hDm:(t,cv)∈D:=AV hD;obtain⟨k1,k2,k3⟩:t.length=d/\t.sum=(n:Int)/\∀i:Nat,0<=t.getD i 0:=tab.key _ hDm;have hx9:Is H9 (lf x) (.ref ya):=eZ (t9 _ _ hya);have hw9:=hwi.mono s9;rw[ID hD];have N4:=(oB rok (fun _=>0) (xs:=D.take j) (fun y hy=>tab.key y (DC hy)) (acc:=[]) ⟨by simp,fun x hx=>nomatch hx⟩).1;generalize stP p (spR g (cnt x)) (D.take j) []=ac at N3 N4⊢;refine⟨_,rfl,_,rfl,_,0,_,hx9,rfl,rfl,fun u1 KR=> ?_⟩;rw[az KR];refine⟨_,_,rfl,rfl,_,rfl,_,1,_,hx9,rfl,rfl,fun u2 Lj=> ?_⟩;rw[az Lj];refine⟨_,_,rfl,rfl,_,rfl, .inl ⟨rfl,_,SqL.of (s9 _ _ hwa)⟩,_,rfl,wa,NF, .ref ya,1,_,rfl,rfl,SqL.of (s9 _ _ hwa),IA hw9 hx9, ?_⟩;rw[wlen,GP];refine⟨.ref b,t,p,g,cnt x, ?_,eS hb,by lia,by decide,by lia,⟨by lia,k3,by lia⟩,fun rl H10 L4 Ls Lz=> ?_⟩
   .show [V.ref b,V.int (x.1-1),V.int (x.2.1-2),V.int (mk.count x:Nat)]=_;rw[hp,show x.2.1-2=(p:Int)+(g:Int) by lia,<-hcn]
   rw[uG (by lia),BX] at Lz;obtain⟨_,KF,e,N5,KW⟩:=aB Lz;cases e;have Ow:∀r∈spR g (cnt x),r.length=g+1/\r.sum=cnt x:=fun r hr=>oy hr;generalize spR g (cnt x)=rs at KW rok Ow⊢;have KG:KF.length=rs.length:=by rw[KW.length,A1]
   have hk10:=L4 _ _ hk9;have hf10:=L4 _ _ N3;have rlf:rl≠f:=by rintro rfl;rw[N3] at Ls;cases Ls
   have l0f:l0≠f:=by rintro rfl;rw[hl9] at N3;cases N3
   refine⟨rl,rfl,⟨_,SqL.of N5⟩,bP (xs:=KF) (fun m σ H11=>(∃v6 v7,σ=[some (.int d),some (.ref wa),some (.ref kd),some (.ref ya),some (.ref f),some (.ref b),v6,v7])/\ae H H11/\H11 kd=some (.frz o (.dT (bh D)))/\H11 l0=some (.lst KI)/\ay H10 H11/\H11 rl=some (.lst KF)/\H11 f=some (.dT (bh (inP t cv p (rs.take m) ac)))) ⟨⟨_,_,rfl⟩,s9.trans L4,hk10,L4 _ _ hl9,ay.of_same (ae.refl H10),N5,hf10⟩ (fun m σ H11 _ h=>SqL.of h.2.2.2.2.2.1) ?_ ?_⟩
   .rintro m z σ H11 hm ⟨⟨v6,v7,rfl⟩,OJ,NL,OK,t11,N6,Mm⟩;obtain⟨r,K3,hz⟩:=bd KW hm;obtain⟨q,u6,rfl,hq,hu6⟩:=pB (kS t11 hz);obtain⟨ua,rfl,hua⟩:=bM hu6;obtain⟨r1,r2⟩:=Ow r (AV K3);have hua':H11 ua=some (.tup ((bq (cj t p r)).map kV)):=by rw[jb];exact hua
    have hb11:H11 b=some (.tup ((bq t).map kV)):=by rw[jb];exact t11 _ _ (L4 _ _ hb)
    have tabm:=(oA (v:=cv) ⟨k1,k2,k3⟩ (fun _=>0) (rs:=rs.take m) (fun r hr=>rok r (DC hr)) N4).1;refine⟨q,_,rfl,SqT.of hq,rfl,_,_,rfl,_,_,rfl,rfl, ?_⟩;refine⟨_,rfl,f,rfl, .inr ⟨_, .inl Mm⟩,_,rfl,_,di.t Mm hua', ?_⟩;rw[GM];refine⟨_,rfl,_,rfl,kd, .int cv,rfl, .inr ⟨bh D,bq t,b, .inr ⟨o,NL⟩,rfl,hb11,(GN tab.nd hDm).symm⟩,_,rfl,_,_,rfl,rfl, .inr (Iz k3 (by lia) (by lia)),_,_,rfl,rfl,_,rfl,_,rfl,f,_,rfl,gy.t Mm hua' ?_, ?_⟩
    .rw [oE];exact jh (tabm.size d5 hn15)
    .rw [show inP t cv p (rs.take (m+1)) ac=gZ (inP t cv p (rs.take m) ac) (cj t p r) (cv*cc t p r) from vG _ _ rs m r K3];rw[oF];exact⟨⟨_,_,rfl⟩,OJ.put Ms,by rw[ax fkd.symm];exact NL,by rw[ax l0f];exact OK,t11.trans (IE Mm),by rw[ax rlf];exact N6,ak⟩
   .rintro σ H11 ⟨⟨v6,v7,rfl⟩,OJ,NL,OK,t11,N6,Mm⟩;rw[KG,AR] at Mm;exact⟨⟨_,_,_,rfl⟩,OJ,NL,OK,(t9.trans (ay.of_same L4)).trans t11,Mm⟩
  .rintro σ H9 ⟨⟨v5,v6,v7,rfl⟩,s9,hk9,hl9,t9,N3⟩;rw[oE,AR] at N3;refine⟨_,rfl,⟨f,_,n+cnt x,⟨_,_,_,_,_,rfl⟩,N3,tab',NS.symm, ?_,Ms⟩,s9,hl9,t9⟩;rw[sum',Mw];simp[bF]
 .rintro σ H6 ⟨⟨kd,D,n,⟨v3,v4,v5,v6,v7,rfl⟩,M7,tab,hn,Mw,M6⟩,s6,hl6,t6⟩;refine⟨_,rfl,kd,bh D,D.map (·.2),rfl, .inl M7,GO D, ?_⟩;rw[LH,List.drop_length] at Mw;have:(D.map (·.2)).sum=tot:=by rw[<-GL,<-Mw];rfl
  rw[this];exact kk H6 s6
theorem Jd:OKQ T.X20 P w base 10 spHM:=by
 refine FbO T.X20 FW fun _ _ _ _ H vs Q E hr h=> ?_;obtain⟨d,dv,ps,rfl,d1,d5,hd,hs,Ox,kk⟩:=h;refine⟨_,(aj (aT (pcq (Jb T) hr T.X16 (ab (pv 0) (ab (pv 1) af))))
  (ai (ao (pcq (wb T) hr T.X19 (ab (pv 0) (ab (ah dE (pv 1) (pcq (Jc T) hr T.X17 (ab (pv 0) (ab (pv 1) af)))) af)))))), ?_⟩
 obtain⟨hM,Ox⟩:=Iu Ox;have pl:=hM.2;rw[A'] at pl;refine⟨_,rfl,_,rfl,d,dv,ps,rfl,d1,d5,hd,hs,fun H1 s1=> ?_⟩;refine⟨_,rfl,_,rfl,_,rfl,_,rfl,d,dv,ps,rfl,d1,d5,hd.mono s1,hs,by lia,fun l2 H2 s2 n2 h2=> ?_⟩;refine⟨_,_,(hd.mono s1).mono s2,h2,Ae (aA (by rw[A1,A1];lia)),fun l3 H3 n3 s3 h3=> ?_⟩;rw[<-A5] at h3;refine⟨d, .ref l3,_,rfl,d1,d5,h3,hM,Ox,fun H4 s4=>kk H4 (((s1.trans s2).trans s3).trans s4)⟩
theorem wc:OKQ T.X13 P w base 1 spWorth:=by
 refine FbO T.X13 jV fun _ _ _ _ H vs Q E hr h=> ?_;obtain⟨dv,ps,d,rfl,hd,hok,kk⟩:=h;refine⟨_,(aj (pSA (i:=1) jV.nd ag)
  (aj (aL AO rfl (aY (pv 0)) (pGA (i:=2) jV.nd) (ai (fK (i:=1) jV.nd rfl (by trivial) (ah qk (aw aG (pv 2) ag (fun _ _=>rfl)) ag) lJ)))
  (ai (ao (pv 1))))), ?_⟩
 obtain⟨da,Ki,rfl,Kp,Kx⟩:=aB hd;have KC:Ki.length=ps.length:=by rw[Kx.length,A1]
 refine⟨_,rfl,da,rfl,⟨_,SqL.of Kp⟩,bP (xs:=Ki) (fun i σ H2=>(∃v2,σ=[some (.ref da),some (.int (c8 (ps.take i))),v2])/\H2=H) ⟨⟨none,rfl⟩,rfl⟩ (fun i σ H2 _ h=>by rw[h.2];exact SqL.of Kp) ?_ ?_⟩
 .rintro i x σ H2 hi ⟨⟨v2,rfl⟩,rfl⟩;obtain⟨p,Ky,hy⟩:=bd Kx hi;obtain⟨_,w1,w2⟩:=hok p (AV Ky);have b1:p.2.2.natAbs<2^64:=by lia
  have b2:p.2.2^(2:Int).toNat<2^64:=by
   show p.2.2^2<2^64;have:p.2.2*p.2.2<=2^20*2^20:=CZ w2 w2 (by lia) (by decide);rw[Int.pow_succ,Int.pow_succ,Int.pow_zero,Int.one_mul];lia
  have b3: -(2^64)<p.2.2^(2:Int).toNat:=by
   show _<p.2.2^2;have h0:0<=p.2.2*p.2.2:=By (by lia) (by lia);have h1:p.2.2^2=p.2.2*p.2.2:=by rw[Int.pow_succ,Int.pow_succ,Int.pow_zero,Int.one_mul]
   rw[h1];lia
  refine⟨_,rfl,_,rfl,_,2,_,hy,rfl,rfl,fun u hu=> ?_⟩;rw[az hu];refine⟨_,_,rfl,rfl,⟨by decide,by decide,b1⟩,_,_,rfl,rfl, .inr ⟨b3,b2⟩,⟨some x, ?_⟩,rfl⟩;rw[AN,Ky];unfold c8;rw[CV];rfl
 .rintro σ H2 ⟨⟨v2,rfl⟩,rfl⟩;rw[KC,AR];exact⟨_,rfl,kk⟩
theorem Je:OKQ T.X21 P w base 12 (spCtF fD):=by
 refine FbO T.X21 FX fun _ _ _ _ H vs Q E hr h=> ?_;obtain⟨d,k,rfl,hW,kk⟩:=h;refine⟨_,(aj (aT (pcq (pO T) hr T.X3 (ab (pv 0) (ab (pv 1) af))))
  (ai (ao (bi (gF rfl) (by rfl) T.n_sum Da (ab (cq (XN:=["d","k"]) (sc:=al jY) (N:=["drawing","d"]) (own:=1) (js:=[0]) rfl (by ac_nf) rfl rfl (aY (pcq (I9 T) hr T.X12 (ab (pv 0) (ab (pv 1) af)))) (fun _ _ _ _=>(bm (i:=0) (show List.Nodup (["drawing","d"]:O4 Str) by ac_nf) rfl (Or.inl rfl) (.inr rfl))) (cg (by decide)) (fun _ _ _ _=>cp) (fun _ _ _ _=>(ah bC (pcq (wc T) hr T.X13 (ab (pv 0) af)) (pcq (Jd T) hr T.X20 (ab (pv 1) (ab (pv 0) af)))))) af))))), ?_⟩
 obtain⟨g1,g4⟩:=HY hW;have d15:1<=d/\d<=5:=by unfold Wide at hW;lia
 refine⟨_,rfl,_,rfl,d,k,rfl,hW, ?_⟩;refine⟨_,rfl,_,rfl,d,k,rfl,hW,g1,fun L l H1 pL s1 nl hl=> ?_⟩;have g4:∀x∈L,jc d x=true/\mkB d x=true:=fun x hx=>g4 x (pL.mem_iff.mp hx);have g5:L.length<=1000:=by have:=pL.length_eq;have:=g1.2.1;lia
 rw[show fD d k=(L.map (kE d)).sum from(IX (kE d) pL).symm] at kk;clear pL;have hl:=hl.mono bE;obtain⟨_,KI,e,LD,Mf⟩:=aB hl;cases e;have LH:KI.length=L.length:=by rw[Mf.length,A1]
 refine⟨l,rfl,⟨_,SqL.of LD⟩,fun acc na=> ?_⟩;refine dk (xs:=KI) (own:=1) (js:=[0]) (fun i H3=>ae H1 H3/\H3 acc=some (.lst (((L.take i).map (kE d)).map V.int))) ⟨ae.new na,ak⟩ (fun i H3 _ h=>SqL.of (h.1 _ _ LD)) ?_ ?_ ci cr ?_
 .rintro i y H3 hi ⟨s3,Kc⟩;obtain⟨x,hx,hy⟩:=bd Mf hi;have il:i<L.length:=(AD.mp hx).1;obtain⟨g41,g42⟩:=g4 x (AV hx);obtain⟨o1,o2,o3,o4,o5⟩:=GR g41;have N0:=hy.mono s3;refine dm ?_;refine⟨_,rfl,y,x,d,rfl,N0,(fun p hp=>⟨trivial,(o2 p hp).2⟩),_,rfl,_,rfl,d,y,x,rfl,d15.1,d15.2,N0,o1,g42,fun H4 s4=> ?_⟩;refine⟨_,_,rfl,rfl, .inl ⟨by lia,by lia⟩,acc,_,_,rfl,rfl,s4 _ _ Kc,aA (by rw[A1,A1,Ac];lia),(s3.trans s4).put na, ?_⟩;rw[ak,AN,hx,A5,A5];rfl
 .rintro H3 ⟨s3,Kc⟩;rw[LH,AR] at Kc;exact⟨acc,_,rfl,SqL.of Kc,kk H3 (s1.trans s3)⟩
 .rintro σ H R R' k' ⟨v1,e1,dv,ps,d',e2,i1,o1,v2,e3,v3,e4,n,dv2,ps2,e5,a1,a2,i2,sn,sb,kk2⟩;exact⟨v1,e1,dv,ps,d',e2,i1,o1,v2,e3,v3,e4,n,dv2,ps2,e5,a1,a2,i2,sn,sb,fun H' s'=>let ⟨i,j,x1,x2,x3,x4⟩:=kk2 H' s';⟨i,j,x1,x2,x3,k' _ _ x4⟩⟩
theorem wd:OKQ T.X22 P w base 2 spIsR:=by
 refine FbO T.X22 uf fun Kz A outer s H vs Q E hr h=> ?_;obtain⟨v,t,rfl,hv,⟨tn,tl,tt⟩,kk⟩:=h;refine⟨_,(aj (aU (fI (dQ (bi iB (by rfl) T.n_isinstance DZ (ab (pv 0) (ab (io (v:= .ty "list") (by rfl) T.n_list boot_list (by rfl)) af))))) (ai (ao kX)) aS)
  (aj (aL AO rfl (aY (pv 0)) (pGA (i:=1) uf.nd) (ai (aU (fm (fI (dQ (pcq (vX T) hr T.X0 (ab (pv 1) af)))) (gm (aM cK (pv 1) ag (aF _)))).pt (ai (ao kX)) aS)))
  (ai (ao (qc (FM (pv 0)) (ip (eO dR (aw cC (pv 0) (gp gr ag) (fun _ _=>rfl)) ag (aF _)))))))), ?_⟩
 obtain⟨a,rfl,ha⟩:=ig hv;refine⟨_,rfl,_,"list",_,true,rfl, .lst ha,vz,true,rfl,bn ?_⟩;refine⟨_,rfl,a,rfl,⟨_,SqL.of ha⟩,bP (xs:=t.map V.int) (fun i σ H2=>(∃v1,σ=[some (.ref a),v1])/\H2=H) ⟨⟨none,rfl⟩,rfl⟩ (fun i σ H2 _ h=>by rw[h.2];exact SqL.of ha) ?_ ?_⟩
 .rintro i y σ H2 hi ⟨⟨v1,rfl⟩,rfl⟩;rw[AF] at hi;obtain⟨x,hx,rfl⟩:=AC.mp hi;have x0:0<=x:=by
   have:=tn i;rw[A7,hx] at this;exact this
  refine⟨_,rfl,_,rfl, .inl ⟨_,rfl⟩,true,rfl,bn ⟨_,rfl,_,_,rfl,rfl,_,rfl,aX (fun h=>absurd h (by lia)) (fun _=>⟨⟨_,rfl⟩,rfl⟩)⟩⟩
 .rintro σ H2 ⟨⟨v1,rfl⟩,rfl⟩;refine⟨_,rfl,a,_,rfl,SqL.of ha,_,rfl, ?_⟩;rcases tt with rfl|⟨s,x,rfl,x0⟩
  .exact dC kk
  .have e0:((s++[x]).map V.int).isEmpty=false:=by
    cases s<;>rfl
   rw[e0];refine bn ⟨_,rfl,1,rfl,a,_,-1, .int x,rfl,rfl,SqL.of ha, ?_,_,_,rfl,rfl, ?_⟩
   .unfold atI ixN;rw[A1,A',A6 (by decide),A8 (by simp;lia)];show((s++[x]).map V.int)[((-1:Int)+((s.length+1:Nat):Int)).toNat]? =_;rw[show((-1:Int)+((s.length+1:Nat):Int)).toNat=s.length by lia,AF,BS (AB _),Nat.sub_self];rfl
   .show Q (.bl (decide (0<x))) H2;rw[Ag x0];exact kk
theorem we {t:O4 Int}{x:Int} (h:t[i]? =some x):((List.range (i+1)).map fun j:Nat=>((j:Int)+1)*t.getD j 0)=((List.range i).map fun j:Nat=>((j:Int)+1)*t.getD j 0)++[((i:Int)+1)*x]:=by
 rw[B0,A5,AK,List.map_nil,A7,h];rfl
theorem wg (t:O4 Int):((List.range t.length).map fun j:Nat=>((j:Int)+1)*t.getD j 0).sum=wtF t:=by
 have go:∀(t:O4 Int) (i:Int),((List.range t.length).map fun j:Nat=>((j:Int)+i)*t.getD j 0).sum=wtG i t:=fun t=>by
  induction t with
  |nil=>intro i;rfl
  |cons x t ih=>
   intro i;rw[Ad,List.range_succ_eq_map,AK,BX,Aj];unfold wtG;rw[<-ih (i+1)];congr 1
   .simp
   .refine BN List.sum (B' fun j _=> ?_);show(((j+1:Nat):Int)+i)*t.getD j 0=_;rw[show((j+1:Nat):Int)+i=(j:Int)+(i+1) by lia]
 exact go t 1
theorem wj:OKQ T.X23 P w base 1 spRwL:=by
 refine FbO T.X23 ug fun _ _ _ _ H vs Q E hr h=> ?_;obtain⟨v,t,rfl,hv,tl,kk⟩:=h;refine⟨_,(ai (ao (bi (gF rfl) (by rfl) T.n_sum Da (ab (cq (XN:=["row"]) (sc:=al iU) (N:=["place","number"]) (own:=2) (js:=[]) rfl (by ac_nf) rfl rfl (jH (by rfl) T.n_enumerate (pv 0)) (fun _ _ _ _=>(jK (K:=K) rfl rfl (aO (bm (i:=0) (show List.Nodup (["place","number"]:O4 Str) by ac_nf) rfl (Or.inl rfl) (.inr rfl)) (aO (bm (i:=1) (show List.Nodup (["place","number"]:O4 Str) by ac_nf) rfl (Or.inl rfl) (.inr rfl)) b0)))) lH (fun _ _ _ _=>cp) (fun _ _ _ _=>(ah bC (ah aC (pv 0) ag) (pv 1)))) af)))), ?_⟩;obtain⟨a,rfl,ha⟩:=ig hv;refine⟨_,rfl,a,rfl,⟨_,SqL.of ha⟩,fun acc na=> ?_⟩;refine FD (xs:=t.map V.int) (own:=2) (js:=[]) (fun i H2=>ae H H2/\H2 acc=some (.lst (((List.range i).map fun j:Nat=>((j:Int)+1)*t.getD j 0).map V.int))) ⟨ae.new na,ak⟩ (fun i H2 _ h=>SqL.of (h.1 _ _ ha)) ?_ ?_ lI cr ?_
 .rintro i y H2 p hi ⟨s2,Kc⟩ np;rw[AF] at hi;obtain⟨x,hx,rfl⟩:=AC.mp hi;have il:i<t.length:=(AD.mp hx).1;have s3:ae H2 (upd H2 p (.tup [.int i, .int x])):=ae.new np;refine⟨p,_,rfl,SqT.of ak,rfl,_,_,rfl,_,_,rfl,rfl, ?_⟩;refine⟨_,rfl,_,_,rfl,rfl,_,rfl,_,_,rfl,rfl, .inl ⟨by lia,by lia⟩,acc,_,_,rfl,rfl,s3 _ _ Kc,aA (by rw[A1,A1,BK];lia),(s2.trans s3).put na, ?_⟩;rw[ak,we hx,A5];rfl
 .rintro H2 ⟨s2,Kc⟩;rw[A1] at Kc;refine⟨acc,_,rfl,SqL.of Kc, ?_⟩;rw[wg];exact kk H2 s2
 .rintro σ H R R' k ⟨v1,e1,i1,i2,e2,e3,v2,e4,i3,i4,e5,e6,c,h⟩;exact⟨v1,e1,i1,i2,e2,e3,v2,e4,i3,i4,e5,e6,c,k _ _ h⟩
theorem wn:OKQ T.X23 P w base 1 spRwT:=by
 refine FbO T.X23 ug fun _ _ _ _ H vs Q E hr h=> ?_;obtain⟨v,t,rfl,hv,tl,kk⟩:=h;refine⟨_,(ai (ao (bi (gF rfl) (by rfl) T.n_sum Da (ab (cq (XN:=["row"]) (sc:=al iU) (N:=["place","number"]) (own:=2) (js:=[]) rfl (by ac_nf) rfl rfl (mG (by rfl) T.n_enumerate (pv 0)) (fun _ _ _ _=>(jK (K:=K) rfl rfl (aO (bm (i:=0) (show List.Nodup (["place","number"]:O4 Str) by ac_nf) rfl (Or.inl rfl) (.inr rfl)) (aO (bm (i:=1) (show List.Nodup (["place","number"]:O4 Str) by ac_nf) rfl (Or.inl rfl) (.inr rfl)) b0)))) lH (fun _ _ _ _=>cp) (fun _ _ _ _=>(ah bC (ah aC (pv 0) ag) (pv 1)))) af)))), ?_⟩;obtain⟨a,rfl,ha⟩:=bM hv;refine⟨_,rfl,a,rfl,⟨_,SqT.of ha⟩,fun acc na=> ?_⟩;refine FC (xs:=t.map V.int) (own:=2) (js:=[]) (fun i H2=>ae H H2/\H2 acc=some (.lst (((List.range i).map fun j:Nat=>((j:Int)+1)*t.getD j 0).map V.int))) ⟨ae.new na,ak⟩ (fun i H2 _ h=>SqT.of (h.1 _ _ ha)) ?_ ?_ lI cr ?_
 .rintro i y H2 p hi ⟨s2,Kc⟩ np;rw[AF] at hi;obtain⟨x,hx,rfl⟩:=AC.mp hi;have il:i<t.length:=(AD.mp hx).1;have s3:ae H2 (upd H2 p (.tup [.int i, .int x])):=ae.new np;refine⟨p,_,rfl,SqT.of ak,rfl,_,_,rfl,_,_,rfl,rfl, ?_⟩;refine⟨_,rfl,_,_,rfl,rfl,_,rfl,_,_,rfl,rfl, .inl ⟨by lia,by lia⟩,acc,_,_,rfl,rfl,s3 _ _ Kc,aA (by rw[A1,A1,BK];lia),(s2.trans s3).put na, ?_⟩;rw[ak,we hx,A5];rfl
 .rintro H2 ⟨s2,Kc⟩;rw[A1] at Kc;refine⟨acc,_,rfl,SqL.of Kc, ?_⟩;rw[wg];exact kk H2 s2
 .rintro σ H R R' k ⟨v1,e1,i1,i2,e2,e3,v2,e4,i3,i4,e5,e6,c,h⟩;exact⟨v1,e1,i1,i2,e2,e3,v2,e4,i3,i4,e5,e6,c,k _ _ h⟩
theorem Jf:OKQ T.X24 P w base 3 spNeR:=by
 refine FbO T.X24 FY fun _ _ _ _ H vs Q E hr h=> ?_;obtain⟨d,v1,v2,a,b,rfl,h1,h2,r1,r2,e,kk⟩:=h;refine⟨_,(aj (aU (fm (fI (dQ (pcq (wd T) hr T.X22 (ab (pv 1) af)))) (gm (fI (dQ (pcq (wd T) hr T.X22 (ab (pv 2) af)))))).pt (ai jv) aS)
  (ai (aU (aM qr (ah aC (pcq (wj T) hr T.X23 (ab (pv 1) af)) (pcq (wj T) hr T.X23 (ab (pv 2) af))) (pv 0) (aF _)) (ai jv) aS))), ?_⟩
 refine⟨_,rfl,v1,a,rfl,h1,r1,true,rfl,bn ⟨_,rfl,v2,b,rfl,h2,r2,true,rfl,bn ?_⟩⟩;refine⟨_,rfl,v1,a,rfl,h1,r1.2.1,fun H1 s1=>⟨_,rfl,v2,b,rfl,h2.mono s1,r2.2.1,fun H2 s2=> ?_⟩⟩;exact⟨_,_,rfl,rfl,_,rfl,rfl,_,rfl,yV (fun hz=>absurd e hz) fun _=>kk H2 (s1.trans s2)⟩
theorem Jg:OKQ T.X15 P w base 1 spPrd:=by
 refine FbO T.X15 jW fun _ _ _ _ H vs Q E hr h=> ?_;obtain⟨v,ws,rfl,hv,hw,kk⟩:=h;refine⟨_,(aj (pSA (i:=1) jW.nd ag)
  (aj (aL AO rfl (aY (pv 0)) (pGA (i:=2) jW.nd) (ai (fK (i:=1) jW.nd rfl (by trivial) (pv 2) lJ)))
  (ai (ao (pv 1))))), ?_⟩
 obtain⟨a,rfl,ha⟩:=ig hv;refine⟨_,rfl,a,rfl,⟨_,SqL.of ha⟩,bP (xs:=ws.map V.int) (fun i σ H2=>(∃v2,σ=[some (.ref a),some (.int (cx (ws.take i))),v2])/\H2=H) ⟨⟨none,rfl⟩,rfl⟩ (fun i σ H2 _ h=>by rw[h.2];exact SqL.of ha) ?_ ?_⟩
 .rintro i y σ H2 hi ⟨⟨v2,rfl⟩,rfl⟩;rw[AF] at hi;obtain⟨x,hx,rfl⟩:=AC.mp hi;obtain⟨x1,x5⟩:=hw x (AV hx);refine⟨_,rfl,_,rfl,_,_,rfl,rfl, .inr ⟨by lia,by lia⟩,⟨some (.int x), ?_⟩,rfl⟩;have e:cx (ws.take (i+1))=cx (ws.take i)*x:=by
   rw[AN,hx];unfold cx;rw[CV];rfl
  rw[e];rfl
 .rintro σ H2 ⟨⟨v2,rfl⟩,rfl⟩;rw[A1,AR];exact⟨_,rfl,kk⟩
theorem wo:OKQ T.X25 P w base 1 spFil:=by
 refine FbO T.X25 FZ fun _ _ _ _ H vs Q E hr h=> ?_;obtain⟨v,t,n,rfl,hv,tn,n5,kk⟩:=h;refine⟨_,(ai (ao (gu iJ (by rfl) T.n_tuple boot_tuple (ab (ah dE (pv 0) (ah gG (aN (ab ag af)) (ah aK (pv 1) (bi jD (by rfl) T.n_len boot_len (ab (pv 0) af))))) af)))), ?_⟩;obtain⟨a,rfl,ha⟩:=ig hv;refine⟨_,rfl,(zB rfl),fun l1 H1 n1 s1 h1=> ?_⟩;refine⟨_,rfl,_,rfl,a,_,rfl, .inl (SqL.of (s1 _ _ ha)),_,_,rfl,rfl, .i 0,_,aD h1 (am bv ap),rfl, ?_, ?_, ?_,fun l2 H2 n2 s2 h2=> ?_⟩
 .rw [A1];lia
 .rw [A1];lia
 .exact Ae (aA (by rw[A1];lia))
 refine⟨_,_,hv.mono (s1.trans s2),h2,Ae (aA (by rw[A1,B2,A1];lia)),fun l3 H3 n3 s3 h3=> ?_⟩;refine⟨_,_,rfl,h3,fun l4 H4 n4 s4 h4=>kk _ H4 (((s1.trans s2).trans s3).trans s4) ?_⟩;have e:t.map D.i++List.replicate (((n:Int))-(((t.map V.int).length:Nat):Int)).toNat (D.i 0)=(bW n t).map D.i:=by
  unfold bW;rw[A1,A5,Bu,show((n:Int)-(t.length:Int)).toNat=n-t.length by lia]
 rw[e] at h4;exact h4
theorem Jh:OKQ T.X26 P w base 1 spRwn:=by
 refine FbO T.X26 gS fun _ _ _ _ H vs Q E hr h=> ?_;obtain⟨v,t,rfl,hv,tn,ts,tl,kk⟩:=h;refine⟨_,(aj (pSA (i:=1) gS.nd (aN (ab (aZ af) af)))
  (aj (aL AO rfl (xE (pv 0)) (pGA (i:=2) gS.nd) (aj (pSA (i:=3) gS.nd (aN af))
  (aj (aL AO rfl (aY (pv 1)) (pGA (i:=4) gS.nd) (ai (aT (bQ Aa Bc Bb fN (pv 3) (ab (cq (XN:=["row","found","number","longer","begun"]) (sc:=al jZ) (N:=["here","begun"]) (own:=1) (js:=[4]) rfl (by ac_nf) rfl rfl (fq (by rfl) T.n_range (ab (ah aC (pv 2) ag) af)) (fun _ _ _ _=>(bm (i:=0) (show List.Nodup (["here","begun"]:O4 Str) by ac_nf) rfl (Or.inl rfl) (.inr rfl))) (cg (by decide)) (fun _ _ _ _=>cp) (fun _ _ _ _=>(ah mo (pv 1) (aZ (ab (pv 0) af))))) af)))))
  (ai (pSA (i:=1) gS.nd (pv 3))))))
  (ai (ao (pv 1))))), ?_⟩
 obtain⟨a,rfl,ha⟩:=bM hv;refine⟨AQ _,fun e0 H1 ne0 s1 he0=>⟨(zB rfl),fun f0 H2 nf0 s2 hf0=> ?_⟩⟩;have L0:=s1.trans s2;refine⟨_,rfl,a,rfl,⟨_,SqT.of (L0 _ _ ha)⟩,xJ (xs:=t.map V.int) (fun i σ H3=>(∃fo v2 v3 v4,σ=[some (.ref a),some (.ref fo),v2,v3,v4]/\H fo=none/\Is H3 (.l ((rwF (t.take i)).map tI)) (.ref fo))/\ae H H3) ⟨⟨f0,none,none,none,rfl,s1.free nf0,aD hf0 (am (eS (xs:=[]) (s2 _ _ he0)) ap)⟩,L0⟩ (fun i σ H3 _ h=>SqT.of (h.2 _ _ ha)) ?_ ?_⟩
 .rintro i y σ H3 hi ⟨⟨fo,v2,v3,v4,rfl,Lv,KU⟩,s3⟩;rw[AF] at hi;obtain⟨x,hx,rfl⟩:=AC.mp hi;have il:i<t.length:=(AD.mp hx).1;have x0:0<=x:=by
   have:=tn i;rw[A7,hx] at this;exact this
  have nx:rwF (t.take (i+1))=rwS (rwF (t.take i)) x:=by
   rw[AN,hx];unfold rwF;rw[CV];rfl
  have big:(rwS (rwF (t.take i)) x).length<=32:=by rw[<-nx];exact oH tn ts (i+1)
  have hFl:∀b∈rwF (t.take i),b.length<=5:=fun b hb=>by
   have:=(oG (GV tn i) hb).len;rw[Ac] at this;lia
  rw[nx];generalize rwF (t.take i)=F at KU big hFl;obtain⟨_,fvs,e,Kh,hfi⟩:=aB KU;cases e;have flen:fvs.length=F.length:=by rw[hfi.length,A1]
  refine⟨AQ _,fun lo H4 nlo s4 hlo=> ?_⟩;have nloH:H lo=none:=s3.free nlo;have fl:fo≠lo:=by rintro rfl;rw[Kh] at nlo;cases nlo
  have part:∀j,(rwS (F.take j) x).length<=32:=fun j=>by
   rw[uR] at big⊢;refine B7 (DA _ ?_) big;rw[Ac];lia
  refine⟨_,rfl,fo,rfl,⟨_,SqL.of (s4 _ _ Kh)⟩,bP (xs:=fvs) (fun j σ H5=>(∃v4,σ=[some (.ref a),some (.ref fo),some (.int x),some (.ref lo),v4])/\ae H H5/\H5 fo=some (.lst fvs)/\ay H4 H5/\∃KI,H5 lo=some (.lst KI)/\Iss H5 ((rwS (F.take j) x).map tI) KI) ⟨⟨_,rfl⟩,s3.trans s4,s4 _ _ Kh,ay.of_same (ae.refl _),[],hlo,ap⟩ (fun j σ H5 _ h=>SqL.of h.2.2.1) ?_ ?_⟩
  .rintro j b σ H5 hj ⟨⟨v4,rfl⟩,s5,Kr,t5,KI,NM,hl5⟩;obtain⟨bb,hbb,hb⟩:=bd hfi hj;have hb5:Is H5 (tI bb) b:=fG t5 (hb.mono s4);have nx2:rwS (F.take (j+1)) x=rwS (F.take j) x++(List.range (x+1).toNat).map fun h:Nat=>bb++[(h:Int)]:=by
    unfold rwS;rw[AN,hbb,BF];simp
   have pj:=part (j+1);rw[nx2] at pj⊢;rw[A',A1,BK] at pj;have ll:KI.length=(rwS (F.take j) x).length:=by rw[hl5.length,A1]
   generalize rwS (F.take j) x=R at hl5 pj ll;refine⟨_,rfl, .inl ⟨rfl,_,SqL.of NM⟩,_,rfl,_,_,rfl,rfl,_,rfl,by lia,by lia,fun acc na=> ?_⟩;have naH:H acc=none:=s5.free na;refine fR (lo:=0) (n:=(x+1).toNat) (own:=1) (js:=[4]) (fun m H6=>ae H5 H6/\∃zs,H6 acc=some (.lst zs)/\Iss H6 (((List.range m).map fun h:Nat=>bb++[(h:Int)]).map tI) zs) ⟨ae.new na,[],ak,ap⟩ ?_ ?_ ci cr ?_
   .rintro m H6 hm ⟨s6,zs,Kc,hz⟩;rw[Cv];refine⟨_,rfl,_,rfl,(zB rfl),fun q H7 nq s7 hq=> ?_⟩;have MG:=s6.trans s7;refine⟨bb.map .i,[.i (m:Int)],hb5.mono MG,bw hq (am bv ap),Ae (aA (by have:=hFl bb (AV hbb);rw[A1];show _+1<=1000;lia)),fun u H8 s8 hu=> ?_⟩;have N7:=s8 _ _ (s7 _ _ Kc);have zl:zs.length=m:=by rw[hz.length,A1,A1,BK]
    refine⟨acc,zs,_,rfl,rfl,N7,aA (by lia),(MG.trans s8).put na,_,ak, ?_⟩;have tu:ay H8 (upd H8 acc (.lst (zs++[u]))):=ay.upd N7;rw[B0,A5,A5];refine(ii tu ((hz.mono s7).mono s8)).append (am (fG tu ?_) ap);show Is H8 (.t ((bb++[(m:Int)]).map .i)) u;rw[A5];exact hu
   .rintro H6 ⟨s6,zs,Kc,hz⟩;have zl:zs.length=(x+1).toNat:=by rw[hz.length,A1,A1,BK]
    have Mk:=s6 _ _ NM;refine⟨lo,acc,KI,zs,rfl,rfl,Mk,Kc,Ae (aA (by lia)),⟨_,rfl⟩,(s5.trans s6).put nloH,by rw[ax fl];exact s6 _ _ Kr,(t5.trans (ay.of_same s6)).trans (ay.upd Mk),_,ak, ?_⟩;have tu:ay H6 (upd H6 lo (.lst (KI++zs))):=ay.upd Mk;rw[A5];exact(ii tu (hl5.mono s6)).append (ii tu hz)
   .rintro σ H R R' k ⟨v1,e1,v2,e2,e3,h⟩;refine⟨v1,e1,v2,e2,e3,fun q H7 nq s7 hq=> ?_⟩;obtain⟨xs,ys,a1,a2,a3,a4⟩:=h q H7 nq s7 hq;exact⟨xs,ys,a1,a2,a3,fun u H8 s8 hu=>k _ _ (a4 u H8 s8 hu)⟩
  .rintro σ H5 ⟨⟨v4,rfl⟩,s5,Kr,t5,KI,NM,hl5⟩;rw[flen,AR] at hl5;exact⟨_,rfl,⟨lo,_,_,_,rfl,nloH,aD NM hl5⟩,s5⟩
 .rintro σ H3 ⟨⟨fo,v2,v3,v4,rfl,Lv,KU⟩,s3⟩;rw[A1,AR] at KU;exact⟨_,rfl,kk fo H3 s3 Lv KU⟩
theorem Ji {t:O4 Int}(h:p<t.length):atI (t.map D.i) (p:Int)=some (.i (t.getD p 0)):=by
 refine fT (j:=p) rfl ?_;rw[AF,A2 h,A7,A2 h];rfl
theorem Jj {D M:Int} (hM:(if D<(L:Int) then D else(L:Int))=M) (hl:L<=5) (hD: -2000<=D):M<=5/\-2000<=M/\(M-(fi:Int)).toNat=min L D.toNat-fi:=by
 subst hM;split<;>lia
theorem Jk {D:Int} (hi:i<min L D.toNat-fi) (hl:L<=5) (hm:D.toNat+1<=n+1):fi+i<L/\(D-(1+((fi+i:Nat):Int))).toNat+1<=n/\fi+i<=5/\1+((fi+i:Nat):Int)<=D:=by lia
theorem wp:∀n:Nat,FnOk P w K mg base CX0 (n+2) T.f27 T.d27 ["row","weight","first"] (spRby n K)
 |0=>⟨fun vs H Q E h=>(by obtain⟨_,_,_,_,_,_,_,_,h,_⟩:=h;lia),fun A outer s H args us vs Q E _ _ _ _ h=>(by obtain⟨_,_,_,_,_,_,_,_,h,_⟩:=h;lia)⟩
 |n+1=>by
  have ih:=wp n;refine T.X27.F.ok j0 (fun vs H Q E h=> ?_) (fun Kz A outer s H vs Q E hr h=> ?_)
  .obtain⟨_,_,_,_,rfl,_⟩:=h;rfl
  .obtain⟨v,t,wt,fi,rfl,hv,tn,tl,hm,n8,b1,b2,b3,b4,f5,kk⟩:=h;refine⟨_,(aj (pSA (i:=3) j0.nd (ah aK (pv 1) (pcq (wn T) hr T.X23 (ab (pv 0) af) (by lia))))
   (aj (aU (aM cn (pv 3) ag (aF _)) (ai (ao (aN (ab (pv 0) af)))) aS)
   (aj (pSA (i:=4) j0.nd (aN af))
   (aj (aL AO rfl (cS (by rfl) T.n_range (ab (pv 2) (ab (bi (xS rfl) (by rfl) T.n_min boot_min (ab (bi lG (by rfl) T.n_len boot_len (ab (pv 0) af)) (ab (pv 3) af))) af))) (pGA (i:=5) j0.nd) (ai (aT (bQ Aa Bc Bb fN (pv 4) (ab (dS ih hr (by rfl) T.X27.m T.X27.F.kp T.X27.B .nil dW (ab (pcq (jo T) hr T.X14 (ab (pv 0) (ab (pv 5) (ab ag af))) (by lia)) (ab (pv 1) (ab (pv 5) af)))) af)))))
   (ai (ao (pv 4))))))), ?_⟩
   refine⟨_,rfl,_,rfl,v,t,rfl,hv,tl,fun H1 s1=>⟨_,_,rfl,rfl, ?_⟩⟩;unfold rbF at kk;refine⟨_,rfl,rfl,_,rfl,cM (fun e=> ?_) (fun e=> ?_)⟩
   .rw [A8 (show wt-wtF t=0 by lia)] at kk;refine⟨_,rfl,(zB rfl),fun l H2 nl s2 hl=> ?_⟩;exact kk l H2 (s1.trans s2) (s1.free nl) (aD hl (am (hv.mono (s1.trans s2)) ap))
   .have e:¬wt-wtF t=0:=by lia
    rw[A6 e] at kk;refine⟨AQ _,fun fo H2 Lv s2 KU=> ?_⟩;have L0:=s1.trans s2;have nfoH:H fo=none:=s1.free Lv;refine⟨_,rfl,_,rfl,_,_,rfl, .inr (hv.mono L0),_,rfl,_,_,rfl, ?_⟩;generalize hM:(if wt-wtF t<(((t.map D.i).length:Nat):Int) then wt-wtF t else(((t.map D.i).length:Nat):Int))=M;rw[A1] at hM;have eM:=Jj (fi:=fi) hM tl (by lia);refine⟨_,_,rfl,⟨by lia,by lia,by lia,by lia⟩, ?_⟩;rw[eM.2.2];have len5:∀i,i<=5->((List.range i).flatMap fun j=>rbF n (wmF t (fi+j) 1) wt (fi+j)).length<=i*5^n:=by
     intro i;induction i with
     |zero=>intro _;exact AQ _
     |succ i ih2=>
      intro hi;rw[B0,BF,A',CH,BZ,List.flatMap_nil,B5];have:=ih2 (by lia);have:=oI (n:=n) (wt:=wt) (row:=wmF t (fi+i) 1) (first:=fi+i) (by rw[eC];exact tl);lia
    have p5:5^n<=5^7:=Bw (by decide) (by lia);refine cJ (lo:=(fi:Int)) (n:=min t.length (wt-wtF t).toNat-fi) (fun i σ H3=>(∃v5,σ=[some v,some (.int wt),some (.int fi),some (.int (wt-wtF t)),some (.ref fo),v5])/\ae H H3/\∃zs,H3 fo=some (.lst zs)/\Iss H3 (((List.range i).flatMap fun j=>rbF n (wmF t (fi+j) 1) wt (fi+j)).map tI) zs) ⟨⟨none,rfl⟩,L0,[],KU,ap⟩ ?_ ?_
    .rintro i σ H3 hi ⟨⟨v5,rfl⟩,s3,zs,Kh,hz⟩;obtain⟨hp,q1,q2,q3⟩:=Jk hi tl hm;have ew:wtF (wmF t (fi+i) 1)=wtF t+(1+((fi+i:Nat):Int)):=by rw[<-Int.mul_one (1+((fi+i:Nat):Int))];exact kF hp
     have ed:wt-(wtF t+(1+((fi+i:Nat):Int)))=wt-wtF t-(1+((fi+i:Nat):Int)):=by rw[Int.sub_sub]
     rw[show(fi:Int)+(i:Int)=((fi+i:Nat):Int) by lia];refine⟨_,rfl, .inl ⟨rfl,_,SqL.of Kh⟩,_,rfl,_,rfl,v,t,fi+i,1,rfl,hv.mono s3,hp,tl,fun u H4 s4 hu=> ?_⟩;refine⟨_,rfl,_,rfl,u,wmF t (fi+i) 1,wt,fi+i,rfl,hu,kG hp tn (by have:=tn (fi+i);lia),by rw[eC];exact tl,by rw[ew,ed];exact q1,by lia,b1,b2,by rw[ew];clear ew ed;lia,by rw[ew];clear ew ed;lia,q2,fun rl H5 s5 Ls Lz=> ?_⟩;obtain⟨_,KF,e,Ml,KW⟩:=aB Lz;cases e;have No:=s4.trans s5;have Kr:=No _ _ Kh;have l1:=len5 (i+1) (by lia);have nx:((List.range (i+1)).flatMap fun j=>rbF n (wmF t (fi+j) 1) wt (fi+j))=((List.range i).flatMap fun j=>rbF n (wmF t (fi+j) 1) wt (fi+j))++rbF n (wmF t (fi+i) 1) wt (fi+i):=by
      rw[B0,BF,BZ,List.flatMap_nil,B5]
     rw[nx] at l1⊢;rw[A'] at l1;have l5:(i+1)*5^n<=5*5^7:=C8 (by lia) p5;have d5:5*5^7=390625:=by decide
     have zl:=hz.length;have rl':=KW.length;rw[A1] at zl rl';generalize ((List.range i).flatMap fun j=>rbF n (wmF t (fi+j) 1) wt (fi+j))=R at hz l1 zl;generalize rbF n (wmF t (fi+i) 1) wt (fi+i)=R2 at KW l1 rl';refine⟨fo,rl,zs,KF,rfl,rfl,Kr,Ml,Ae (jh (by clear ew ed q1 q3 hp hi eM hm b1 b2 b3 b4;lia)),⟨_,rfl⟩,(s3.trans No).put nfoH,_,ak, ?_⟩;have tu:ay H5 (upd H5 fo (.lst (zs++KF))):=ay.upd Kr;rw[A5];exact(ii tu (hz.mono No)).append (ii tu KW)
    .rintro σ H3 ⟨⟨v5,rfl⟩,s3,zs,Kh,hz⟩;exact⟨_,rfl,kk fo H3 s3 nfoH (aD Kh hz)⟩
theorem Jl {a:O4 Int} (h:Le a b):∀{i:Nat}{x y:Int},b[i]? =some x->a[i]? =some y->cw (b.take (i+1)) (a.take (i+1))=cw (b.take i) (a.take i)*chF x y.toNat:=by
 induction a generalizing b with
 |nil=>intro i x y _ hy;simp at hy
 |cons z a ih=>
  cases b with
  |nil=>exact h.elim
  |cons u b=>
   intro i x y hx hy;cases i with
   |zero=>
    have e1:u=x:=by simpa using hx
    have e2:z=y:=by simpa using hy
    subst e1 e2;simp[cw]
   |succ i=>
    rw[BO,BO,BO,BO];show chF u z.toNat*cw (b.take (i+1)) (a.take (i+1))=chF u z.toNat*cw (b.take i) (a.take i)*_;rw[ih h.2.2 (by simpa using hx) (by simpa using hy),Int.mul_assoc]
theorem wu {a:O4 Int} (h:Le a b):∀{i:Nat}{x y:Int},b[i]? =some x->a[i]? =some y->0<=y/\y<=x:=by
 induction a generalizing b with
 |nil=>intro i x y _ hy;simp at hy
 |cons z a ih=>
  cases b with
  |nil=>exact h.elim
  |cons u b=>
   intro i x y hx hy;cases i with
   |zero=>
    have e1:u=x:=by simpa using hx
    have e2:z=y:=by simpa using hy
    subst e1 e2;exact⟨h.1,h.2.1⟩
   |succ i=>exact ih h.2.2 (by simpa using hx) (by simpa using hy)
theorem wv {x:Int} (h:Nn b) (hx:b[i]? =some x):x<=b.sum:=by
 induction b generalizing i with
 |nil=>simp at hx
 |cons y b ih=>
  obtain⟨p,q⟩:=Nn.cons.mp h;have s0:=(du (i:=1) (by decide) q).1;rw[Aj];cases i with
  |zero=>
   have e1:y=x:=by simpa using hx
   lia
  |succ i=>
   have:=ih q (by simpa using hx);lia
theorem ww:OKQ T.X28 P w base 2 spChs:=by
 refine FbO T.X28 iV fun _ _ _ _ H vs Q E hr h=> ?_;obtain⟨v1,v2,b,a,rfl,Nh,My,le,bs,kk⟩:=h;refine⟨_,(aj (pSA (i:=2) iV.nd ag)
  (aj (aL AO rfl (FJ (by rfl) T.n_zip (ab (pv 0) (ab (pv 1) af))) (cA rfl (aO (pGA (i:=3) iV.nd) (aO (pGA (i:=4) iV.nd) b0))) (ai (fK (i:=2) iV.nd rfl (by trivial) (pcq (pQ T) hr T.X5 (ab (pv 3) (ab (pv 4) af))) lJ)))
  (ai (ao (pv 2))))), ?_⟩
 obtain⟨ba,rfl,hb⟩:=bM Nh;obtain⟨aa,rfl,ha⟩:=bM My;have ll:=le.len;refine⟨_,rfl,_,rfl,ba,aa,rfl,⟨_,SqT.of hb⟩,⟨_,SqT.of ha⟩,FK (xs:=b.map V.int) (ys:=a.map V.int) (by rw[A1,A1,ll]) (fun i σ H2=>(∃v3 v4,σ=[some (.ref ba),some (.ref aa),some (.int (cw (b.take i) (a.take i))),v3,v4])/\ae H H2) ⟨⟨none,none,rfl⟩,ae.refl _⟩ (fun i σ H2 _ h=>⟨SqT.of (h.2 _ _ hb),SqT.of (h.2 _ _ ha)⟩) ?_ ?_⟩
 .rintro i x y σ H2 p hx hy ⟨⟨v3,v4,rfl⟩,s2⟩ np;rw[AF] at hx hy;obtain⟨x,hx1,rfl⟩:=AC.mp hx;obtain⟨y,hy1,rfl⟩:=AC.mp hy;have hx:=hx1;have hy:=hy1;obtain⟨y0,yx⟩:=wu le hx hy;have x5:=wv (Le.nn le).2 hx;have s3:ae H2 (upd H2 p (.tup [.int x, .int y])):=ae.new np;refine⟨p,_,rfl,SqT.of ak,rfl,_,_,rfl,_,_,rfl,rfl, ?_⟩;obtain⟨c0,c1⟩:=uU y0 yx (by lia);have c2:(2:Int)^x.toNat<=2^5:=by
   have:x.toNat=0\/x.toNat=1\/x.toNat=2\/x.toNat=3\/x.toNat=4\/x.toNat=5:=by lia
   rcases this with e|e|e|e|e|e<;>rw[e]<;>decide
  have d5:(2:Int)^5=32:=by decide
  refine⟨_,rfl,_,rfl,_,rfl,x,y.toNat, ?_,by lia,by lia, ?_⟩
  .show [V.int x,V.int y]=[V.int x,V.int ((y.toNat:Nat):Int)];rw[show((y.toNat:Nat):Int)=y by lia]
  refine⟨_,_,rfl,rfl, .inr ⟨by lia,by lia⟩,⟨some (.int x),some (.int y), ?_⟩,s2.trans s3⟩;rw[Jl le hx hy];rfl
 .rintro σ H2 ⟨⟨v3,v4,rfl⟩,s2⟩;rw[A1,AR,<-ll,AR];exact⟨_,rfl,kk H2 s2⟩
theorem wx:∀{a b:O4 Int},Le a b->∀{k:Int}{i:Nat}{x y:Int},a[i]? =some x->b[i]? =some y->wgG k (a.take (i+1)) (b.take (i+1))=wgG k (a.take i) (b.take i)++List.replicate (y-x).toNat (k+i)
 |[],_,_,k,i,x,y,hx,_=>by simp at hx
 |z::a,[],h,_,_,_,_,_,_=>h.elim
 |z::a,u::b,h,k,i,x,y,hx,hy=>by
  cases i with
  |zero=>
   have e1:z=x:=by simpa using hx
   have e2:u=y:=by simpa using hy
   subst e1 e2;simp[wgG]
  |succ i=>
   rw[BO,BO,BO,BO];show _++wgG (k+1) (a.take (i+1)) (b.take (i+1))=_++wgG (k+1) (a.take i) (b.take i)++_;rw[wx h.2.2 (by simpa using hx) (by simpa using hy),BE,show k+1+(i:Int)=k+((i+1:Nat):Int) by lia]
theorem pR:∀{a b:O4 Int} (i:Nat),Le a b->Le (a.take i) (b.take i)
 |[],[],i,_=>by rw[List.take_nil];exact trivial
 |x::a,y::b,0,_=>trivial
 |x::a,y::b,i+1,h=>⟨h.1,h.2.1,pR i h.2.2⟩
theorem Jm:OKQ T.X29 P w base 1 spWgn:=by
 refine FbO T.X29 j4 fun _ _ _ _ H vs Q E hr h=> ?_;obtain⟨v1,v2,f,fr,rfl,Nh,My,le,fl5,fs5,kk⟩:=h;refine⟨_,(aj (pSA (i:=2) j4.nd (aN af))
  (aj (aL AO rfl (mG (by rfl) T.n_enumerate (pv 0)) (cA rfl (aO (pGA (i:=3) j4.nd) (aO (pGA (i:=4) j4.nd) b0))) (ai (aT (bQ Aa Bc Bb fN (pv 2) (ab (ah gG (aN (ab (ah aC (pv 3) ag) af)) (ah aK (aw aG (pv 1) (pv 3) (fun _ _=>rfl)) (pv 4))) af)))))
  (ai (ao (pv 2))))), ?_⟩
 obtain⟨fa,rfl,hf⟩:=bM Nh;have ll:=le.len;refine⟨AQ _,fun fo H1 Lv s1 KU=> ?_⟩;refine⟨_,rfl,fa,rfl,⟨_,SqT.of (s1 _ _ hf)⟩,ud (xs:=f.map V.int) (fun i σ H2=>(∃v3 v4,σ=[some (.ref fa),some v2,some (.ref fo),v3,v4])/\ae H H2/\H2 fo=some (.lst ((wgG 1 (f.take i) (fr.take i)).map V.int))) ⟨⟨none,none,rfl⟩,s1,KU⟩ (fun i σ H2 _ h=>SqT.of (h.2.1 _ _ hf)) ?_ ?_⟩
 .rintro i y σ H2 p hi ⟨⟨v3,v4,rfl⟩,s2,Ko⟩ np;rw[AF] at hi;obtain⟨x,hx,rfl⟩:=AC.mp hi;have il:i<f.length:=(AD.mp hx).1;have s3:ae H2 (upd H2 p (.tup [.int i, .int x])):=ae.new np;have hy:fr[i]? =some (fr.getD i 0):=by
   rw[A7,A2 (by lia)];rfl
  obtain⟨x0,xy⟩:=wu le hy hx;have y5:=wv (Le.nn le).2 hy;have lb:(wgG 1 (f.take i) (fr.take i)).length<=1000:=by
   have l1:=pG (k:=1) (pR i le);have l2:=(du (i:=1) (by decide) (Le.nn (pR i le)).1).1;have l3:(fr.take i).sum<=fr.sum:=by
    have e:(fr.take i).sum+(fr.drop i).sum=fr.sum:=by rw[<-CD,D3]
    have nd:Nn (fr.drop i):=fun j=>by
     rw[A7,List.getElem?_drop];have:=(Le.nn le).2 (i+j);rwa [A7] at this
    have:=(du (i:=1) (by decide) nd).1;lia
   lia
  refine⟨p,_,rfl,SqT.of ak,rfl,_,_,rfl,_,_,rfl,rfl, ?_⟩;have Kh:=s3 _ _ Ko;have KH:=s2.trans s3;generalize upd H2 p (.tup [.int i, .int x])=H3 at s3 Kh KH;refine⟨_,rfl, .inl ⟨rfl,_,SqL.of Kh⟩,_,rfl,_,_,rfl,rfl,(zB rfl),fun l1 H4 n1 s4 h1=> ?_⟩;refine⟨_,rfl,_,rfl,fr.map .i,(i:Int),_,(My.mono KH).mono s4,rfl,Ji (by lia),fun u hu=> ?_⟩;rw[az hu];refine⟨_,rfl,_,_,rfl,rfl, .i ((i:Int)+1),_,aD h1 (am bv ap),rfl,by lia,by lia,Ae (aA (by lia)),fun l2 H5 n2 s5 h2=> ?_⟩;rw[<-Bu] at h2;obtain⟨_,e,K0⟩:=ig h2;cases e;have Kr:=s5 _ _ (s4 _ _ Kh);refine⟨fo,l2,_,_,rfl,rfl,Kr,K0,Ae (jh (by rw[A1,A1,B2];lia)),⟨_,_,rfl⟩,((KH.trans s4).trans s5).put Lv, ?_⟩;rw[ak,wx le hx hy,A5,Int.add_comm 1 (i:Int)]
 .rintro σ H2 ⟨⟨v3,v4,rfl⟩,s2,Ko⟩;rw[A1,AR,ll,AR] at Ko;exact⟨_,rfl,kk fo H2 s2 Lv (ji Ko)⟩
theorem Jn:OKQ T.X30 P w base 2 (spOne g8):=by
 refine FbO T.X30 iW fun _ _ _ _ H vs Q E hr h=> ?_;obtain⟨v1,v2,q,L,rfl,Nh,My,aq,d2,kk⟩:=h;refine⟨_,(aj (pSA (i:=4) iW.nd (aN af))
  (aj (aL AO rfl (mG (by rfl) T.n_enumerate (pv 3)) (cA rfl (aO (pGA (i:=5) iW.nd) (aO (pGA (i:=6) iW.nd) b0))) (ai (aU (aM dR (pv 6) ag (aF _)) (aj (pSA (i:=7) iW.nd (aZ (ab (pv 0) (ab (pv 1) (ab (pcq (jo T) hr T.X14 (ab (pv 2) (ab (pv 5) (ab ag af)))) (ab (pcq (jo T) hr T.X14 (ab (pv 3) (ab (pv 5) (ab (gp gr ag) af)))) af))))))
  (ai (aT (bQ Aa Ax Aw cU (pv 4) (ab (aZ (ab ag (ab (aN (ab (ah aC (pv 5) ag) af)) (ab (pv 7) af)))) af))))) aS)))
  (ai (ao (pv 4))))), ?_⟩
 obtain⟨fa,rfl,hf⟩:=bM My;have hl:=aq.hl;have fl:=aq.fl;have L5:=aq.L5;refine⟨AQ _,fun fo H1 Lv s1 KU=> ?_⟩;refine⟨_,rfl,fa,rfl,⟨_,SqT.of (s1 _ _ hf)⟩,ud (xs:=q.f.map V.int) (fun i σ H2=>(∃v5 v6 v7,σ=[some (.int q.d),some (.int q.k),some v1,some (.ref fa),some (.ref fo),v5,v6,v7])/\ae H H2/\Acc H H2 fo (((List.range i).flatMap (dH q)).map smD)/\((List.range i).flatMap (dH q)).length<=i) ⟨⟨none,none,none,rfl⟩,s1,Acc.start KU,AB _⟩ (fun i σ H2 _ h=>SqT.of (h.2.1 _ _ hf)) ?_ ?_⟩
 .rintro i y σ H2 p hi ⟨⟨v5,v6,v7,rfl⟩,s2,⟨zs,Ko,hz⟩,pl⟩ np;rw[AF] at hi;obtain⟨x,hx,rfl⟩:=AC.mp hi;have il:i<q.f.length:=(AD.mp hx).1;have ex:q.f.getD i 0=x:=by rw[A7,hx];rfl
  have s3:ae H2 (upd H2 p (.tup [.int i, .int x])):=ae.new np;have nx:(List.range (i+1)).flatMap (dH q)=(List.range i).flatMap (dH q)++dH q i:=by
   rw[B0,BF,BZ,List.flatMap_nil,B5]
  rw[nx];have zl:=hz.length;rw[A1] at zl;generalize (List.range i).flatMap (dH q)=R at hz pl zl;refine⟨p,_,rfl,SqT.of ak,rfl,_,_,rfl,_,_,rfl,rfl, ?_⟩;generalize upd H2 p (.tup [.int i, .int x])=H3 at s3;have KH:=s2.trans s3;refine⟨_,rfl,_,_,rfl,rfl,_,rfl,aX (fun hg=> ?_) (fun hg=> ?_)⟩
  .have hg:x>0:=hg;unfold dH;rw[ex,A8 hg];refine⟨_,rfl,_,rfl,_,rfl,_,rfl,v1,q.h,i,1,rfl,Nh.mono KH,by lia,by lia,fun u1 H4 s4 KR=> ?_⟩;refine⟨_,rfl,_,rfl,1,rfl, .ref fa,q.f,i,-1,rfl,(My.mono KH).mono s4,il,by lia,fun u2 H5 s5 Lj=>⟨(zB rfl),fun t6 H6 n6 s6 h6=> ?_⟩⟩;have hq6:Is H6 (qD ⟨q.d,q.k,wmF q.h i 1,wmF q.f i (-1)⟩) (.ref t6):=bw h6 (am bv (am bv (am ((KR.mono s5).mono s6) (am (Lj.mono s6) ap))));have s26:=((s3.trans s4).trans s5).trans s6;refine⟨_,rfl, .inl ⟨rfl,_,SqL.of (s26 _ _ Ko)⟩,_,rfl,_,_,rfl,rfl,(zB rfl),fun l7 H7 n7 s7 h7=>⟨_,rfl,(zB rfl),fun t8 H8 n8 s8 h8=> ?_⟩⟩;have s28:=(s26.trans s7).trans s8;refine⟨fo,zs,_,rfl,rfl,s28 _ _ Ko,aA (by lia),⟨_,_,_,rfl⟩,(s2.trans s28).put Lv, ?_,by rw[A'];show _+1<=_;lia⟩;rw[A5];refine Acc.add s2 s28 Ko hz ?_;refine bw (kx s28 h8) (am bv (am (vH (s26.free n7) (ji (t:=[(i:Int)+1]) (s8 _ _ h7))) (am (vI (je s28) ((hq6.mono s7).mono s8)) ap)))
  .have hg:¬x>0:=hg;unfold dH;rw[ex,A6 hg,B5];exact⟨⟨_,_,_,rfl⟩,KH,Acc.mono s3 ⟨zs,Ko,hz⟩,by lia⟩
 .rintro σ H2 ⟨⟨v5,v6,v7,rfl⟩,s2,Kc,_⟩;rw[A1] at Kc;exact⟨_,rfl,kk fo H2 s2 Lv (Kc.is Lv)⟩
theorem wy (h:n<=12600000):n<sizeLine:=by rw[Av];lia
theorem pT {q:Ask4} (hl:q.f.length<=5):∀(F:O4 (O4 Int)),(F.flatMap (dI q)).length<=F.length*390625
 |[]=>AQ _
 |x::F=>by
  rw[BZ,A',Ad,CH];have h1:=pT hl F;have h2:=oI (n:=8) (wt:=q.d-1-wtF x) (row:=q.f) (first:=0) hl;have:(dI q x).length<=390625:=by unfold dI;rw[A1];exact h2
  lia
theorem Jo:OKQ T.X31 P w base 11 (spOne hG):=by
 refine FbO T.X31 iX fun _ _ _ _ H vs Q E hr h=> ?_;obtain⟨v1,v2,q,L,rfl,Nh,My,aq,d2,kk⟩:=h;refine⟨_,(aj (pSA (i:=4) iX.nd (aN af))
  (aj (aL AO rfl (aY (pcq (Jh T) hr T.X26 (ab (pv 2) af))) (pGA (i:=5) iX.nd) (ai (aL AO rfl (aY (pcq (wp T 8) hr T.X27 (ab (pv 3) (ab (ah aK (ah aK (pv 0) ag) (pcq (wn T) hr T.X23 (ab (pv 5) af))) (ab ag af))))) (pGA (i:=6) iX.nd) (aj (pSA (i:=7) iX.nd (aZ (ab (ah aK (pv 0) ag) (ab (ah aC (ah aK (ah aK (ah aC (pv 1) (bi (ue rfl) (by rfl) T.n_sum Da (ab (pv 6) af))) (bi (ue rfl) (by rfl) T.n_sum Da (ab (pv 3) af))) (pv 0)) ag) (ab (pv 5) (ab (pv 6) af))))))
  (ai (aT (bQ Aa Ax Aw cU (pv 4) (ab (aZ (ab (ah bC (pcq (ww T) hr T.X28 (ab (pv 2) (ab (pv 5) af))) (pcq (ww T) hr T.X28 (ab (pv 6) (ab (pv 3) af)))) (ab (pcq (Jm T) hr T.X29 (ab (pv 3) (ab (pv 6) af))) (ab (pv 7) af)))) af))))))))
  (ai (ao (pv 4))))), ?_⟩
 obtain⟨fa,rfl,hf⟩:=bM My;have hl:=aq.hl;have fl:=aq.fl;have L5:=aq.L5;have sm:=aq.sums;have dL:=aq.dL;have wq:=aq.wt;have wh:=dJ (i:=1) (by decide) aq.hn;have wf:=dJ (i:=1) (by decide) aq.fn;refine⟨AQ _,fun fo H1 Lv s1 KU=> ?_⟩;refine⟨_,rfl,v1,q.h,rfl,Nh.mono s1,aq.hn,by lia,by lia,fun kl H2 s2 nkl hkl=> ?_⟩;have L0:=s1.trans s2;obtain⟨_,Kb,e,hkl2,hki⟩:=aB hkl;cases e;have klen:Kb.length=(rwF q.h).length:=by rw[hki.length,A1]
 have k32:(rwF q.h).length<=32:=by have:=oH aq.hn (by lia) q.h.length;rwa [AR] at this
 have kfo:kl≠fo:=by rintro rfl;rw[KU] at nkl;cases nkl
 unfold hG at kk;refine⟨kl,rfl,⟨_,SqL.of hkl2⟩,bP (xs:=Kb) (fun i σ H3=>(∃v5 v6 v7,σ=[some (.int q.d),some (.int q.k),some v1,some (.ref fa),some (.ref fo),v5,v6,v7])/\ae H H3/\H3 kl=some (.lst Kb)/\ay H2 H3/\Acc H H3 fo ((((rwF q.h).take i).flatMap (dI q)).map smD)) ⟨⟨none,none,none,rfl⟩,L0,hkl2,ay.of_same (ae.refl _),(Acc.start KU).mono s2⟩ (fun i σ H3 _ h=>SqL.of h.2.2.1) ?_ ?_⟩
 .rintro i y σ H3 hi ⟨⟨v5,v6,v7,rfl⟩,s3,OL,t3,⟨zs,Kh,hz⟩⟩;obtain⟨kp,hkp,hy⟩:=bd hki hi;have il:i<(rwF q.h).length:=(AD.mp hkp).1;have NC:=AV hkp;have lk:=oG aq.hn NC;have wk0:=dJ (i:=1) (by decide) (Le.nn lk).1;have wk1:=lk.wt (i:=1) (by decide);have nx:((rwF q.h).take (i+1)).flatMap (dI q)=((rwF q.h).take i).flatMap (dI q)++dI q kp:=by
   rw[AN,hkp,BF];simp
  have bnd:=pT (q:=q) (by lia) ((rwF q.h).take (i+1));rw[nx] at bnd⊢;rw[A',Ac] at bnd;have zl:=hz.length;rw[A1] at zl;generalize ((rwF q.h).take i).flatMap (dI q)=R at hz bnd zl;have N0:Is H3 (tI kp) y:=fG t3 hy;refine⟨_,rfl,_,rfl,_,_,rfl,rfl,_,rfl,y,kp,rfl,N0,by have:=lk.len;lia,fun H4 s4=>⟨_,_,rfl,rfl, ?_⟩⟩;have s04:=s3.trans s4;unfold dI at bnd⊢;rw[A1] at bnd;have few:∀fr∈rbF 8 q.f (q.d-1-wtF kp) 0,AskOk L ⟨q.d-1,q.k+fr.sum-q.f.sum-q.d+1,kp,fr⟩/\6*(q.d-1)+fr.sum+1<=muF q/\Le kp q.h/\Le q.f fr/\fr.sum<=5:=fun fr hfr=>aq.few d2 NC hfr;refine⟨.ref fa,q.f,q.d-1-wtF kp,0,rfl,My.mono s04,aq.fn,by lia,by unfold wtF at*;lia,by decide,by unfold wtF at*;lia,by unfold wtF at*;lia,by unfold wtF at*;lia,by unfold wtF at*;lia,by decide,fun rl H5 s5 Ls Lz=> ?_⟩;obtain⟨_,KF,e,Ml,KW⟩:=aB Lz;cases e;have KG:KF.length=(rbF 8 q.f (q.d-1-wtF kp) 0).length:=by rw[KW.length,A1]
  have No:=s4.trans s5;have Kr:=No _ _ Kh;have rfo:rl≠fo:=by rintro rfl;rw[s4 _ _ Kh] at Ls;cases Ls
  have rkl:kl≠rl:=by rintro rfl;rw[s4 _ _ OL] at Ls;cases Ls
  generalize rbF 8 q.f (q.d-1-wtF kp) 0=O at KW few KG bnd;refine⟨rl,rfl,⟨_,SqL.of Ml⟩,bP (xs:=KF) (fun j σ H6=>(∃v6 v7,σ=[some (.int q.d),some (.int q.k),some v1,some (.ref fa),some (.ref fo),some y,v6,v7])/\ae H H6/\H6 kl=some (.lst Kb)/\H6 rl=some (.lst KF)/\ay H5 H6/\Acc H H6 fo ((R++(O.take j).map (g9 q kp)).map smD)) ⟨⟨_,_,rfl⟩,s3.trans No,No _ _ OL,Ml,ay.of_same (ae.refl _),by simpa using Acc.mono No ⟨zs,Kh,hz⟩⟩ (fun j σ H6 _ h=>SqL.of h.2.2.2.1) ?_ ?_⟩
  .rintro j b σ H6 hj ⟨⟨v6,v7,rfl⟩,s6,OM,LY,t6,⟨ws,Mv,hw⟩⟩;obtain⟨fr,hfr,hb⟩:=bd KW hj;have jl:j<O.length:=(AD.mp hfr).1;obtain⟨f1,f2,f3,f4,f5⟩:=few fr (AV hfr);have ON:Is H6 (tI fr) b:=fG t6 hb;have hy6:Is H6 (tI kp) y:=fG t6 (N0.mono No);have wl:=hw.length;rw[A1,A',A1,Ac] at wl;have nx2:(O.take (j+1)).map (g9 q kp)=(O.take j).map (g9 q kp)++[g9 q kp fr]:=by
    rw[AN,hfr,A5];rfl
   rw[nx2,<-BE];obtain⟨ba,rfl,hba⟩:=bM ON;refine⟨_,rfl,_,_,rfl,rfl,_,rfl,_,rfl,ba,fr,rfl,SqT.of hba,_,_,rfl,rfl,_,rfl,fa,q.f,rfl,SqT.of (s6 _ _ hf),_,_,rfl,rfl,_,rfl,_,_,rfl,rfl,_,_,rfl,rfl,_,rfl,_,rfl,(zB rfl),fun t7 H7 n7 s7 h7=> ?_⟩;have hq7:Is H7 (qD ⟨q.d-1,q.k+fr.sum-q.f.sum-q.d+1,kp,fr⟩) (.ref t7):=bw h7 (am bv (am bv (am (hy6.mono s7) (am (ON.mono s7) ap))));have OO:=s6.trans s7;refine⟨_,rfl, .inl ⟨rfl,_,SqL.of (s7 _ _ Mv)⟩,_,rfl,_,rfl,v1,y,q.h,kp,rfl,Nh.mono OO,hy6.mono s7,f3,by lia,fun H8 s8=> ?_⟩;refine⟨_,rfl,_,rfl, .ref ba, .ref fa,fr,q.f,rfl,(ON.mono s7).mono s8,(My.mono OO).mono s8,f4,f5,fun H9 s9=> ?_⟩;have c1:=kH f3 (by lia);have c2:=kH f4 f5;refine⟨_,_,rfl,rfl, .inl ⟨by lia,by lia⟩,_,rfl,_,rfl, .ref fa, .ref ba,q.f,fr,rfl,((My.mono OO).mono s8).mono s9,((ON.mono s7).mono s8).mono s9,f4,by have:=f4.len;lia,f5,fun l10 H10 L4 n10 h10=> ?_⟩;refine⟨_,rfl,(zB rfl),fun t11 H11 n11 OJ h11=> ?_⟩;have NN:=((s7.trans s8).trans s9).trans L4;have LI:=NN.trans OJ;have n10':H6 l10=none:=((s7.trans s8).trans s9).free n10;refine⟨fo,ws,_,rfl,rfl,LI _ _ Mv,wy (by lia),⟨_,_,rfl⟩,(s6.trans LI).put Lv,by rw[ax kfo];exact LI _ _ OM,by rw[ax rfo];exact LI _ _ LY,(t6.trans (ay.of_same LI)).trans (ay.upd (LI _ _ Mv)), ?_⟩;rw[A5];refine Acc.add s6 LI Mv hw ?_;refine bw (kx LI h11) (am bv (am (vH n10' (h10.mono OJ)) (am (vI (je LI) ((((hq7.mono s8).mono s9).mono L4).mono OJ)) ap)))
  .rintro σ H6 ⟨⟨v6,v7,rfl⟩,s6,OM,LY,t6,Kc⟩;rw[KG,AR] at Kc;exact⟨⟨_,_,_,rfl⟩,s6,OM,(t3.trans (ay.of_same No)).trans t6,Kc⟩
 .rintro σ H3 ⟨⟨v5,v6,v7,rfl⟩,s3,OL,t3,Kc⟩;rw[klen,AR] at Kc;exact⟨_,rfl,kk fo H3 s3 Lv (Kc.is Lv)⟩
theorem Jp (a:AskOk L q):(g8 q).length<=5/\(hG q).length<=12500000:=by
 have h5:=a.L5;have fl:=a.fl;have k32:(rwF q.h).length<=32:=by have:=oH a.hn a.sums.2.1 q.h.length;rwa [AR] at this
 refine⟨?_,B7 (pT (by lia) _) (by lia)⟩;unfold g8;refine B7 (jk (m:=1) fun p _=> ?_) (by rw[BK];lia);unfold dH;split<;>simp
theorem Jq:OKQ T.X32 P w base 12 spSms:=by
 refine FbO T.X32 iY fun _ _ _ _ H vs Q E hr h=> ?_;obtain⟨v,q,L,rfl,hv,aq,d2,kk⟩:=h;refine⟨_,(aj (pSA (i:=1) iY.nd (aw aG (pv 0) ag (fun _ _=>rfl)))
  (aj (pSA (i:=2) iY.nd (aw aG (pv 0) ag (fun _ _=>rfl)))
  (aj (pSA (i:=3) iY.nd (aw aG (pv 0) ag (fun _ _=>rfl)))
  (aj (pSA (i:=4) iY.nd (aw aG (pv 0) ag (fun _ _=>rfl)))
  (ai (ao (ah jE (pcq (Jn T) hr T.X30 (ab (pv 1) (ab (pv 2) (ab (pv 3) (ab (pv 4) af))))) (pcq (Jo T) hr T.X31 (ab (pv 1) (ab (pv 2) (ab (pv 3) (ab (pv 4) af)))))))))))), ?_⟩
 refine⟨_,rfl,_,0,_,hv,rfl,rfl,fun u1 k1=> ?_⟩;rw[az k1];refine⟨_,rfl,_,1,_,hv,rfl,rfl,fun u2 k2=> ?_⟩;rw[az k2];refine⟨_,rfl,_,2,_,hv,rfl,rfl,fun u3 k3=> ?_⟩;refine⟨_,rfl,_,3,_,hv,rfl,rfl,fun u4 k4=> ?_⟩;refine⟨_,rfl,_,rfl,_,rfl,_,rfl,u3,u4,q,L,rfl,k3,k4,aq,d2,fun l1 H1 s1 n1 h1=> ?_⟩;refine⟨_,rfl,_,rfl,_,rfl,_,rfl,u3,u4,q,L,rfl,k3.mono s1,k4.mono s1,aq,d2,fun l2 H2 s2 n2 h2=> ?_⟩;obtain⟨_,xs,e,g1,i1⟩:=aB h1;cases e;obtain⟨_,zs,e,g2,i2⟩:=aB h2;cases e;have LD:H2 l1=some (.lst xs):=s2 _ _ (bE _ _ g1);have K0:H2 l2=some (.lst zs):=bE _ _ g2;have sl:=Jp aq;have xl:=i1.length;have zl:=i2.length;rw[A1] at xl zl;refine⟨l1,l2,xs,zs,rfl,rfl,LD,K0,Ae (wy (by lia)),fun p np=> ?_⟩;have s3:ae H2 (upd H2 p (.lst (xs++zs))):=ae.new np;have hp:upd H2 p (.lst (xs++zs)) p=some (.lst (xs++zs)):=ak;generalize upd H2 p (.lst (xs++zs))=H3 at s3 hp;have npH:H p=none:=(s1.trans s2).free np;refine kk p H3 ((s1.trans s2).trans s3) npH (aD (by rw[bV npH];exact hp) ?_);unfold eD;rw[A5];exact(i1.mono (eA (s2.trans s3))).append ((i2.mono (kw s1)).mono (eA s3))
theorem wz:∀n:Nat,FnOk P w K mg base CX0 (n+13) T.f33 T.d33 ["asked","known"] (spCnt P w n)
 |0=>⟨fun vs H Q E h=>(by obtain⟨_,_,_,_,_,_,_,a,h,_⟩:=h;have:=a.mu;lia),fun A outer s H args us vs Q E _ _ _ _ h=>(by obtain⟨_,_,_,_,_,_,_,a,h,_⟩:=h;have:=a.mu;lia)⟩
 |n+1=>by
  have ih:=wz n;refine T.X33.F.ok gT (fun vs H Q E h=> ?_) (fun Kz A outer s H vs Q E hr h=> ?_)
  .obtain⟨_,_,_,_,_,rfl,_⟩:=h;rfl
  .obtain⟨v,kn,q,L,R,rfl,hv,aq,hn,hD,hK,kk⟩:=h;refine⟨_,(aj (aU (aM cK (aw aG (pv 0) ag (fun _ _=>rfl)) ag (aF _)) (ai (ao ag)) aS)
   (aj (aU (aM cn (aw aG (pv 0) ag (fun _ _=>rfl)) ag (aF _)) (ai (ao (qe (aM cn (aw aG (pv 0) ag (fun _ _=>rfl)) ag (aF _)) ag ag))) aS)
   (aj (aU (kY (Fw (fx hr) (pv 0) (pv 1)) rfl) (aj (pSA (i:=2) gT.nd ag)
   (aj (aL AO rfl (aY (pcq (Jq T) hr T.X32 (ab (pv 0) af) (by lia))) (cA rfl (aO (pGA (i:=3) gT.nd) (aO (pGA (i:=4) gT.nd) (aO (pGA (i:=5) gT.nd) b0)))) (ai (fK (i:=2) gT.nd rfl (by trivial) (ah bC (ah bC (pv 3) (pcq (Jg T) hr T.X15 (ab (pv 4) af) (by lia))) (dS ih hr (by rfl) T.X33.m T.X33.F.kp T.X33.B .nil dW (ab (pv 5) (ab (pv 1) af)))) iu)))
   (ai (Fx (fx hr) (pv 1) (pv 0) (pv 2) rfl)))) aS)
   (ai (ao (Fv (fx hr) (pv 1) (pv 0) (fun _ _=>rfl))))))), ?_⟩
   refine⟨_,rfl,_,1,_,hv,rfl,rfl,fun u1 k1=> ?_⟩;rw[az k1];refine⟨_,_,rfl,rfl,_,rfl,aX (fun hz=> ?_) (fun hz=> ?_)⟩
   .have hz:q.k<0:=hz;rw[GX hz] at kk;exact kk R H (But.of_same (ae.refl _)) hD hK
   have hz:¬q.k<0:=hz;refine⟨_,rfl,_,0,_,hv,rfl,rfl,fun u2 k2=> ?_⟩;rw[az k2];refine⟨rfl,_,rfl,cM (fun h1=> ?_) (fun h1=> ?_)⟩
   .rw [GY hz h1] at kk;refine⟨_,rfl,_,1,_,hv,rfl,rfl,fun u3 k3=> ?_⟩;rw[az k3];refine⟨rfl,_,rfl,cM (fun h2=> ?_) (fun h2=> ?_)⟩
    .rw [A8 h2] at kk;exact kk R H (But.of_same (ae.refl _)) hD hK
    .rw [A6 h2] at kk;exact kk R H (But.of_same (ae.refl _)) hD hK
   have d2:2<=q.d:=by have:=aq.d1;lia
   have hk:=pF hv;refine⟨_,rfl,_,rfl,kn,tK R,kq q,rfl,hD,hk,_,rfl, ?_⟩;rw[gg];by_cases MD:kq q∈R.map (·.1)
   .rw [A8 MD];exact bn ⟨_,rfl,_,rfl,kn,tK R,kq q, .int (cF q),rfl,hD,hk,by rw[gg,A8 MD,hK.get MD],kk R H (But.of_same (ae.refl _)) hD hK⟩
   .rw [A6 MD];refine dC ?_;refine⟨_,rfl,v,q,L,rfl,hv,aq,d2,fun l0 H2 s2 NJ Mj=> ?_⟩;have hS:∀x∈eD q,AskOk L x.2.2/\muF x.2.2+1<=muF q/\(0<=x.1/\x.1<=1024)/\(∀w∈x.2.1,1<=w/\w<=5)/\x.2.1.length<=5:=fun x hx=>⟨(aq.less d2 hx).1,(aq.less d2 hx).2,IJ aq d2 hx⟩;have hW:=GZ aq hz h1;generalize eD q=S at hS hW Mj;obtain⟨_,KI,e,OP,OQ⟩:=aB Mj;cases e;have K0:H2 l0=some (.lst KI):=bE _ _ OP;have Mf:Iss H2 (S.map smD) KI:=OQ.mono bE;have LH:KI.length=S.length:=by rw[Mf.length,A1]
    have OR:=hD.mono s2;have OS:l0≠kn:=by
     obtain⟨_,_,xs,_,e⟩:=hD;rintro rfl;rw[e] at NJ;cases NJ
    refine⟨l0,rfl,⟨_,SqL.of K0⟩,bP (xs:=KI) (fun i σ H3=>(∃v3 v4 v5,σ=[some v,some (.ref kn),some (.int (((S.take i).map fun x=>x.1*cx x.2.1*cF x.2.2).sum)),v3,v4,v5])/\But kn H2 H3/\∃R',DM P w H3 kn (tK R')/\KnQ L R') ⟨⟨none,none,none,rfl⟩,But.of_same (ae.refl _),R,OR,hK⟩ (fun i σ H3 _ h=>SqL.of (h.2.1 _ _ K0 OS)) ?_ ?_⟩
    .rintro i y σ H3 hi ⟨⟨v3,v4,v5,rfl⟩,KY,R3,Mt,MH⟩;obtain⟨x,Ku,hy⟩:=bd Mf hi;obtain⟨x1,x2,x3,x4,x5⟩:=hS x (AV Ku);have hx3:Is H3 (smD x) y:=hy.lts (pH OR KY);obtain⟨t,tvs,rfl,ht,L6⟩:=bH hx3;obtain⟨u1,us,rfl,KR,L6⟩:=aQ L6;obtain⟨u2,us,rfl,Lj,L6⟩:=aQ L6;obtain⟨u3,us,rfl,hu3,L6⟩:=aQ L6;rw[bp L6,az KR] at ht;obtain⟨p0,p1⟩:=vK x4;have p2:(5:Int)^x.2.1.length<=3125:=by
      have:x.2.1.length=0\/x.2.1.length=1\/x.2.1.length=2\/x.2.1.length=3\/x.2.1.length=4\/x.2.1.length=5:=by lia
      rcases this with e|e|e|e|e|e<;>rw[e]<;>decide
     have m0:=By x3.1 p0;have m1:=CZ x3.2 (Int.le_trans p1 p2) p0 (by decide);refine⟨t,_,rfl,SqT.of ht,rfl,_,_,rfl,_,_,rfl,_,_,rfl,rfl, ?_⟩;refine⟨_,rfl,_,rfl,_,rfl,u2,x.2.1,rfl,Lj,x4,_,_,rfl,rfl, .inl ⟨by lia,by lia⟩,_,rfl,_,rfl,u3,kn,x.2.2,L,R3,rfl,hu3,x1,by lia,Mt,MH,fun R4 H4 KP M9 hK4=> ?_⟩;refine⟨_,_,rfl,rfl, .inl ⟨by lia,by lia⟩,_,_,rfl,rfl,⟨some (.int x.1),some u2,some u3, ?_⟩,KY.trans KP,R4,M9,hK4⟩;rw[AN,Ku,A5,CD];simp
    .rintro σ H3 ⟨⟨v3,v4,v5,rfl⟩,KY,R3,Mt,MH⟩;rw[LH,AR,<-hW];have M':But kn H H3:=(But.of_same s2).trans KY;have hv3:Is H3 (qD q) v:=(hv.mono s2).lts (pH OR KY);have LK:=MH.len aq.L5;refine⟨_,rfl,_,rfl,_,rfl,kn,tK R3,kq q,rfl,Mt,pF hv3,by rw[vk,Av];lia,fun H4 M9 k4=> ?_⟩;rw[oU MH.1] at M9;have KP:But kn H3 H4:=fun c o e n=>by rw[k4 c n];exact e
     have hv4:=hv3.lts (pH Mt KP);obtain⟨g1,g2⟩:=pE (k:=kq q) (v:=cF q) (R:=R3);exact⟨_,rfl,_,rfl,kn,_,kq q, .int (cF q),rfl,M9,pF hv4,by rw[gg,A8 g2,g1],kk _ H4 (M'.trans KP) M9 (MH.put aq (by lia))⟩
theorem wA {a:O4 Int}(h:Nn a) (hl:a.length<=n):(bW n a).length=n/\Nn (bW n a)/\wtF (bW n a)=wtF a:=by
 have nr:∀(m:Nat) {t:O4 Int},Nn t->Nn (t++List.replicate m 0):=fun m=>by
  induction m with
  |zero=>intro t h;simpa using h
  |succ m ih=>intro t h;rw[List.replicate_succ',<-BE];exact GS (ih h) (by decide)
 refine⟨?_,nr _ h,G2⟩;unfold bW;rw[A',B2];lia
theorem Jr {a:O4 Int} (hw:Wide d k) (ra:eI a) (rb:eI b) (e:wtF a+wtF b=d) (la:a.length<=d) (lb:b.length<=d):AskOk d ⟨d,k,bW d a,bW d b⟩:=by
 obtain⟨a1,a2,a3⟩:=wA ra.1 la;obtain⟨b1,b2,b3⟩:=wA rb.1 lb;unfold Wide at hw;exact⟨a1,b1,a2,b2,by rw[a3,b3];exact e,by show(1:Int)<=(d:Int);lia,CJ _,by lia,by show(k:Int)<=6;lia⟩
theorem Js:OKQ T.X34 P w base 4 spAsk:=by
 refine FbO T.X34 F' fun _ _ _ _ H vs Q E hr h=> ?_;obtain⟨d,k,v1,v2,a,b,rfl,hw,h1,h2,ra,rb,e,la,lb,kk⟩:=h;refine⟨_,(aj (aT (pcq (pO T) hr T.X3 (ab (pv 0) (ab (pv 1) af))))
  (aj (aT (pcq (Jf T) hr T.X24 (ab (pv 0) (ab (pv 2) (ab (pv 3) af)))))
  (ai (ao (aZ (ab (pv 0) (ab (pv 1) (ab (pcq (wo T) hr T.X25 (ab (pv 2) (ab (pv 0) af))) (ab (pcq (wo T) hr T.X25 (ab (pv 3) (ab (pv 0) af))) af))))))))), ?_⟩
 have d5:d<=5:=by unfold Wide at hw;lia
 refine⟨_,rfl,_,rfl,d,k,rfl,hw, ?_⟩;refine⟨_,rfl,_,rfl,_,rfl,d,v1,v2,a,b,rfl,h1,h2,ra,rb,e,fun H1 s1=> ?_⟩;refine⟨_,rfl,_,rfl,_,rfl,_,rfl,v1,a,d,rfl,h1.mono s1,la,d5,fun u1 H2 s2 KR=> ?_⟩;refine⟨_,rfl,_,rfl,v2,b,d,rfl,(h2.mono s1).mono s2,lb,d5,fun u2 H3 s3 Lj=> ?_⟩;refine⟨(zB rfl),fun t H4 nt s4 ht=>kk _ H4 (((s1.trans s2).trans s3).trans s4) ?_⟩;exact bw ht (am bv (am bv (am ((KR.mono s3).mono s4) (am (Lj.mono s4) ap))))
theorem Jt:OKQ T.X35 P w base 54 spByE:=by
 refine FbO T.X35 Ga fun _ _ _ _ H vs Q E hr h=> ?_;obtain⟨d,k,v1,v2,a,b,rfl,hw,h1,h2,ra,rb,e,la,lb,kk⟩:=h;refine⟨_,(ai (ao (pcq (wz T 40) hr T.X33 (ab (pcq (Js T) hr T.X34 (ab (pv 0) (ab (pv 1) (ab (pv 2) (ab (pv 3) af))))) (ab Fy af))))), ?_⟩;have aq:=Jr hw ra rb e la lb;refine⟨_,rfl,_,rfl,_,rfl,_,rfl,d,k,v1,v2,a,b,rfl,hw,h1,h2,ra,rb,e,la,lb,fun u H1 s1 hu=> ?_⟩;intro kn H2 N8 hD k2;have s2:ae H1 H2:=fun b o e=>by rw[k2 b (by rintro rfl;rw[N8] at e;cases e)];exact e
 have nknH:H kn=none:=s1.free N8;refine⟨u,kn,_,d,[],rfl,hu.mono s2,aq,by have:=aq.mu;lia,hD,⟨by simp,fun x hx=>nomatch hx⟩,fun R' H3 KY Mt MH=>kk H3 ?_⟩;exact But.same (s1.trans s2) nknH KY
theorem ik:OKQ T.X36 P w base 1 spLen:=by
 refine FbO T.X36 Gb fun _ _ _ _ H vs Q E hr h=> ?_;obtain⟨v,ps,rfl,hv,Kt,hl,kk⟩:=h;refine⟨_,(ai (ao (bi (rA rfl) (by rfl) T.n_max boot_max (ab (cq (XN:=["template"]) (sc:=al j5) (N:=["lift"]) (own:=1) (js:=[]) rfl (by ac_nf) rfl rfl (aY (pv 0)) (fun _ _ _ _=>(bm (i:=0) (show List.Nodup (["lift"]:O4 Str) by ac_nf) rfl (Or.inl rfl) (.inr rfl))) (cg (by decide)) (fun _ _ _ _=>cp) (fun _ _ _ _=>(aw aG (pv 0) ag (fun _ _=>rfl)))) af)))), ?_⟩;obtain⟨da,Ki,rfl,Kp,Kx⟩:=aB hv;have KC:Ki.length=ps.length:=by rw[Kx.length,A1]
 refine⟨_,rfl,da,rfl,⟨_,SqL.of Kp⟩,fun acc na=> ?_⟩;refine dk (xs:=Ki) (own:=1) (js:=[]) (fun j H4=>ae H H4/\H4 acc=some (.lst (((ps.take j).map (·.2.1)).map V.int))) ⟨ae.new na,ak⟩ (fun j H4 _ h=>SqL.of (h.1 _ _ Kp)) ?_ ?_ ci cr ?_
 .rintro j x H4 hj ⟨s4,Kc⟩;obtain⟨p,Ky,hy⟩:=bd Kx hj;refine dm ?_;refine⟨_,rfl,_,1,_,hy.mono s4,rfl,rfl,fun u hu=> ?_⟩;rw[az hu];refine⟨acc,_,_,rfl,rfl,Kc,aA ?_,s4.put na, ?_⟩
  .rw [A1,A1,Ac];lia
  .rw [ak,AN,Ky,A5,A5];rfl
 .rintro H4 ⟨s4,Kc⟩;rw[KC,AR] at Kc;exact⟨acc,_,rfl,SqL.of Kc,by rw[A1];exact List.length_pos_iff.mpr Kt,kk H4 s4⟩
 .rintro σ H R R' k ⟨v1,e1,xs,i,d,h1,e2,e3,h⟩;exact⟨v1,e1,xs,i,d,h1,e2,e3,fun u hu=>k _ _ (h u hu)⟩
theorem Ju:OKQ T.X37 P w base 2 spLong:=by
 refine FbO T.X37 j7 fun _ _ _ _ H vs Q E hr h=> ?_;obtain⟨k,rfl,k3,kk⟩:=h;refine⟨_,(aj (pSA (i:=1) j7.nd (aN af))
  (aj (aL AO rfl (fq (by rfl) T.n_range (ab (ah aC (pv 0) ag) af)) (pGA (i:=2) j7.nd) (ai (aL AO rfl (cS (by rfl) T.n_range (ab (ah aC (pv 2) ag) (ab (ah aC (pv 0) ag) af))) (pGA (i:=3) j7.nd) (ai (aT (bQ Aa Bc Bb fN (pv 1) (ab (cq (XN:=["k","found","i","j"]) (sc:=al j6) (N:=["w","k","i","j"]) (own:=1) (js:=[0,2,3]) rfl (by ac_nf) rfl rfl (cS (by rfl) T.n_range (ab ag (ab (ah aC (pv 0) ag) af))) (fun _ _ _ _=>(bm (i:=0) (show List.Nodup (["w","k","i","j"]:O4 Str) by ac_nf) rfl (Or.inl rfl) (.inr rfl))) (cg (by decide)) (fun _ _ _ _=>(iD (qv eN eN ag (pcq (gj T) hr T.X8 (ab (aZ (ab (pv 2) (ab (pv 3) (ab (pv 0) af)))) af)) (pv 1)))) (fun _ _ _ _=>(aZ (ab (pv 2) (ab (pv 3) (ab (pv 0) af)))))) af)))))))
  (ai (ao (pv 1))))), ?_⟩
 refine⟨AQ _,fun fo H1 n1 s1 h1=> ?_⟩;refine⟨_,rfl,_,_,rfl,rfl,_,rfl,by lia,by lia, ?_⟩;rw[show((k:Int)+1).toNat=k+1 by lia];refine cJ (lo:=0) (n:=k+1) (fun i σ H2=>(∃v2 v3,σ=[some (.int k),some (.ref fo),v2,v3])/\ae H H2/\∃vs,H2 fo=some (.lst vs)/\Iss H2 ((bS k i).map lf) vs) ⟨⟨none,none,rfl⟩,s1,[],h1,ap⟩ ?_ ?_
 .rintro i σ H2 hi ⟨⟨v2,v3,rfl⟩,s2,ME,Ko,Mg⟩;rw[Cv];refine⟨_,rfl,_,_,rfl,rfl,_,rfl,_,_,rfl,rfl,_,_,rfl,⟨by lia,by lia,by lia,by lia⟩, ?_⟩;rw[show((k:Int)+2-((i:Int)+1)).toNat=k+1-i by lia];refine cJ (lo:=(i:Int)+1) (n:=k+1-i) (fun j σ H3=>(∃v3,σ=[some (.int k),some (.ref fo),some (.int i),v3])/\ae H H3/\∃vs,H3 fo=some (.lst vs)/\Iss H3 ((bS k i++dN i k j).map lf) vs) ⟨⟨v3,rfl⟩,s2,ME,Ko,by simpa[dN] using Mg⟩ ?_ ?_
  .rintro j σ H3 hj ⟨⟨v3,rfl⟩,s3,Nk,Kh,Lr⟩;have vl:Nk.length<=200:=by
    rw[Lr.length,A1,A'];have a:=vL k i;have b:=pM i k j;have c1:(k+1)*(k+1)<=4*4:=C8 (by lia) (by lia);have c:i*((k+1)*(k+1))<=4*(4*4):=C8 (by lia) c1;have d:j*(k+1)<=4*4:=C8 (by lia) (by lia);lia
   refine⟨_,rfl, .inl ⟨rfl,_,SqL.of Kh⟩,_,rfl,_,_,rfl,rfl,1,_,rfl,⟨by decide,by decide,by lia,by lia⟩,fun acc na=> ?_⟩;rw[show((k:Int)+2-1).toNat=k+1 by lia];refine fR (lo:=1) (n:=k+1) (own:=1) (js:=[0,2,3]) (fun m H4=>ae H3 H4/\∃vs,H4 acc=some (.lst vs)/\Iss H4 ((fE (i:Int) ((i:Int)+1+(j:Int)) k m).map lf) vs) ⟨ae.new na,[],ak,ap⟩ ?_ ?_ ci ?_ ?_
   .rintro m H4 hm ⟨s4,Na,Kc,Mz⟩;have v4:Na.length<=10:=by
     rw[Mz.length,A1];have:=pK (i:Int) ((i:Int)+1+(j:Int)) k m;lia
    refine⟨_,rfl,_,rfl,_,rfl,(zB rfl),fun t H5 nt s5 ht=>⟨.ref t,((i:Int),(i:Int)+1+(j:Int),1+(m:Int)),rfl,eZ ht,⟨?_, ?_, ?_, ?_⟩,_,_,rfl,rfl,_,rfl,aX (fun c1=>⟨_,rfl,_,_,rfl,rfl,_,rfl,aX (fun c2=> ?_) (fun c2=> ?_)⟩) (fun c1=>⟨false,rfl,bn ?_⟩)⟩⟩
    .show 0<=(i:Int)+1+(j:Int)-(i:Int);lia
    .show(i:Int)+1+(j:Int)-(i:Int)<=10;lia
    .show 1<=1+(m:Int);lia
    .show 1+(m:Int)<=20;lia
    .refine⟨_,rfl,_,rfl,_,rfl,(zB rfl),fun t2 H6 nt2 s6 Nl=>⟨acc,Na,_,rfl,rfl,s6 _ _ (s5 _ _ Kc),aA (by lia),(s4.trans (s5.trans s6)).put na,_,ak, ?_⟩⟩;rw[pJ,A8 ⟨c1,c2⟩];refine fb (ay.upd (s6 _ _ (s5 _ _ Kc))) ?_;rw[A5];exact(Mz.mono (s5.trans s6)).append (am (eZ Nl) ap)
    .refine⟨s4.trans s5,Na,s5 _ _ Kc, ?_⟩;rw[pJ,A6 fun z=>c2 z.2,B5];exact Mz.mono s5
    .refine⟨s4.trans s5,Na,s5 _ _ Kc, ?_⟩;rw[pJ,A6 fun z=>c1 z.1,B5];exact Mz.mono s5
   .rintro H4 ⟨s4,Na,Kc,Mz⟩;have v4:Na.length<=10:=by
     rw[Mz.length,A1];have:=pK (i:Int) ((i:Int)+1+(j:Int)) k (k+1);lia
    refine⟨fo,acc,Nk,Na,rfl,rfl,s4 _ _ Kh,Kc,Ae (aA (by lia)),⟨_,rfl⟩,(s3.trans s4).put n1,_,ak, ?_⟩;have ej:dN i k (j+1)=dN i k j++fE (i:Int) ((i:Int)+1+(j:Int)) k (k+1):=by unfold dN;rw[cQ]
    rw[ej,<-BE];refine fb (ay.upd (s4 _ _ Kh)) ?_;rw[A5];exact(Lr.mono s4).append Mz
   .rintro σ H R R' k' ⟨v1,e1,v2,e2,v3,e3,z,h⟩;refine⟨v1,e1,v2,e2,v3,e3,z,fun p H2 np s2 hp=> ?_⟩;obtain⟨v4,q,e4,h1,h2,i1,j1,e5,e6,b,e7,h⟩:=h p H2 np s2 hp;refine⟨v4,q,e4,h1,h2,i1,j1,e5,e6,b,e7, ?_⟩;cases b with
    |true=>
     obtain⟨v5,e8,i2,j2,e9,e10,b2,e11,h⟩:=h;exact⟨v5,e8,i2,j2,e9,e10,b2,e11,k' _ _ h⟩
    |false=>
     obtain⟨b2,e11,h⟩:=h;exact⟨b2,e11,k' _ _ h⟩
   .rintro σ H R R' k' ⟨v1,e1,v2,e2,v3,e3,z,h⟩;exact⟨v1,e1,v2,e2,v3,e3,z,fun p H2 np s2 hp=>k' _ _ (h p H2 np s2 hp)⟩
  .rintro σ H3 ⟨⟨v3,rfl⟩,s3,Nk,Kh,Lr⟩;refine⟨⟨_,_,rfl⟩,s3,Nk,Kh, ?_⟩;have ei:bS k (i+1)=bS k i++dN i k (k+1-i):=by unfold bS;rw[cQ]
   rw[ei];exact Lr
 .rintro σ H2 ⟨⟨v2,v3,rfl⟩,s2,ME,Ko,Mg⟩;exact⟨_,rfl,kk fo H2 s2 n1 (aD Ko Mg)⟩
theorem wB:∀n:Nat,FnOk P w K mg base CX0 (n+1) T.f38 T.d38 ["lifts","k"] (spLos n K)
 |0=>⟨fun vs H Q E h=>by obtain⟨_,_,_,_,_,_,h,h',_⟩:=h;lia,fun A outer s H args us vs Q E _ _ _ _ h=>by obtain⟨_,_,_,_,_,_,h,h',_⟩:=h;lia⟩
 |n+1=>by
  have ih:=wB n;refine T.X38.F.ok iZ (fun vs H Q E h=> ?_) (fun Kz A outer s H vs Q E hr h=> ?_)
  .obtain⟨_,_,_,rfl,_⟩:=h;rfl
  .obtain⟨v,ls,k,rfl,hv,hok,k0,k1,hL,hl,hn,kk⟩:=h;refine⟨_,(aj (aU (aM cn (pv 1) ag (aF _)) (ai (ao (aN (ab (aN af) af)))) aS)
   (aj (pSA (i:=2) iZ.nd (aN af))
   (aj (aL AO rfl (jH (by rfl) T.n_enumerate (pv 0)) (cA rfl (aO (pGA (i:=3) iZ.nd) (aO (pGA (i:=4) iZ.nd) b0))) (ai (aU (aM eN (pcq (gj T) hr T.X8 (ab (pv 4) af) (by lia)) (pv 1) (aF _)) (ai (aL AO rfl (aY (dS ih hr (by rfl) T.X38.m T.X38.F.kp T.X38.B .nil dW (ab (dA eP (pv 0) (dh (pv 3)) dU) (ab (ah aK (pv 1) (pcq (gj T) hr T.X8 (ab (pv 4) af) (by lia))) af)))) (pGA (i:=5) iZ.nd) (ai (aT (bQ Aa Ax Aw cU (pv 2) (ab (ah dE (aN (ab (pv 4) af)) (pv 5)) af)))))) aS)))
   (ai (ao (pv 2)))))), ?_⟩
   obtain⟨da,Ki,rfl,Kp,Kx⟩:=aB hv;have KC:Ki.length=ls.length:=by rw[Kx.length,A1]
   rw[o8] at hL kk;refine⟨_,rfl,rfl,_,rfl,cM (fun hz=> ?_) (fun hz=> ?_)⟩
   .rw [A8 hz] at kk;refine⟨AQ _,fun e0 H1 ne s1 he=>⟨(zB rfl),fun fo H2 nf s2 KU=> ?_⟩⟩;exact kk fo H2 (s1.trans s2) (s1.free nf) (aD (by rw[bV (s1.free nf)];exact KU) (am (aD (vs:=[]) (by rw[bV ne];exact s2 _ _ he) ap) ap))
   rw[A6 hz] at hL kk;refine⟨AQ _,fun fo H2 Ms L0 KU=> ?_⟩;have tot:∀i:Nat,i<ls.length->((List.range i).flatMap (df n ls k)).length+(df n ls k i).length<=1000:=fun i hi=>by
    have:=ja (df n ls k) hi;lia
   refine⟨_,rfl,da,rfl,⟨_,SqL.of (L0 _ _ Kp)⟩,lD (xs:=Ki) (fun i σ H3=>(∃v3 v4 v5,σ=[some (.ref da),some (.int k),some (.ref fo),v3,v4,v5])/\ae H H3/\Acc H H3 fo (((List.range i).flatMap (df n ls k)).map lfs)) ⟨⟨none,none,none,rfl⟩,L0,Acc.start KU⟩ (fun i σ H3 _ h=>SqL.of (h.2.1 _ _ Kp)) ?_ ?_⟩
   .rintro i y σ H3 pa hi ⟨⟨v3,v4,v5,rfl⟩,s3,Kc⟩ np;obtain⟨p,Ky,hy⟩:=bd Kx hi;have NG:i<ls.length:=(AD.mp Ky).1;obtain⟨pL,pl1⟩:=hok p (AV Ky);have tt:=tot i NG;have NH:ae H3 (upd H3 pa (.tup [.int i,y])):=ae.new np;have KO:=Kc.mono NH;have stay:df n ls k i=[]->Acc H (upd H3 pa (.tup [.int i,y])) fo (((List.range (i+1)).flatMap (df n ls k)).map lfs):=fun e=>by
     rw[cQ,e,B5];exact KO
    have L8:Is (upd H3 pa (.tup [.int i,y])) (lf p) y:=(hy.mono s3).mono NH;refine⟨pa,_,rfl,SqT.of ak,rfl,_,_,rfl,_,_,rfl,rfl, ?_⟩;generalize upd H3 pa (.tup [.int i,y])=H4 at NH KO stay L8⊢;have s4:ae H H4:=s3.trans NH;refine⟨_,rfl,y,p,rfl,L8,pL,_,rfl,_,_,rfl,rfl,_,rfl,aX (fun c2=> ?_) (fun c2=> ?_)⟩
    .have eG:df n ls k i=(bY n (ls.drop i) (k-aV p)).map (p:: ·):=by
      unfold df;rw[Ky];exact A8 c2
     rw[eG,A1] at tt;refine⟨_,rfl,_,rfl,i,rfl,da,_,rfl,SqL.of (s4 _ _ Kp), ?_⟩;rw[jg (by lia)];intro l2 n2;have MF:ae H4 (upd H4 l2 (.lst (Ki.drop i))):=ae.new n2;have K0:(upd H4 l2 (.lst (Ki.drop i))) l2=some (.lst (Ki.drop i)):=ak;generalize upd H4 l2 (.lst (Ki.drop i))=H5 at MF K0⊢;have s5:=s4.trans MF;have hdr:Is H5 (lfs (ls.drop i)) (.ref l2):=aD K0 (by rw[D9];exact(Kx.drop i).mono s5);refine⟨_,rfl,_,rfl,y,p,rfl,L8.mono MF,pL,_,_,rfl,rfl, ?_⟩;refine⟨.ref l2,ls.drop i,k-aV p,rfl,hdr,fun q hq=>hok q (Bj hq),by lia,by lia,by lia,by rw[Bk];lia,by lia,fun rl H6 s6 Ls Lz=> ?_⟩;obtain⟨MY,Kr,MZ⟩:=KO.mono MF;have Mv:H6 fo=some (.lst MY):=s6 _ _ Kr;obtain⟨_,KF,e,Mh,KW⟩:=aB Lz;cases e;have LY:H6 rl=some (.lst KF):=bE _ _ Mh;have Mi:rl≠fo:=by rintro rfl;rw[Kr] at Ls;cases Ls
     have KG:KF.length=(bY n (ls.drop i) (k-aV p)).length:=by rw[KW.length,A1]
     have M0:Iss (hid H6 fo) ((bY n (ls.drop i) (k-aV p)).map lfs) KF:=(KW.mono (i8 (ae.refl H5) Kr)).mono (dq bE);have s56:=s5.trans s6;refine⟨rl,rfl,⟨_,SqL.of LY⟩,bP (xs:=KF) (fun j σ H7=>(∃v5,σ=[some (.ref da),some (.int k),some (.ref fo),some (.int i),some y,v5])/\ae H H7/\But fo H6 H7/\Acc H H7 fo (((List.range i).flatMap (df n ls k)++((bY n (ls.drop i) (k-aV p)).take j).map (p:: ·)).map lfs)) ⟨⟨_,rfl⟩,s56,fun _ _ e _=>e,by simpa using (KO.mono MF).mono s6⟩ (fun j σ H7 _ h=>SqL.of (h.2.2.1 _ _ LY Mi)) ?_ ?_⟩
     .rintro j x σ H7 hj ⟨⟨v5,rfl⟩,s7,Lu,NI,Lh,Nm⟩;obtain⟨r,K3,hx⟩:=bd M0 hj;have hjl:j<(bY n (ls.drop i) (k-aV p)).length:=(AD.mp K3).1;have hx7:Is H7 (lfs r) x:=hx.mono (pq Lu);have ritem:=(pI (fun q hq=>(hok q (Bj hq)).2) (AV K3)).1;have vl:NI.length<=999:=by
       rw[Nm.length,A1,A',A1,Ac];lia
      have hy7:Is H7 (lf p) y:=hy.mono s7;refine⟨_,rfl, .inl ⟨rfl,_,SqL.of Lh⟩,_,rfl,(zB rfl),fun q1 H8 n8 s8 h8=>⟨_,rfl,[lf p],r.map lf,aD h8 (am (hy7.mono s8) ap),hx7.mono s8,Ae (aA (by rw[A1];show 1+r.length<=1000;lia)),fun q2 H9 n9 s9 h9=> ?_⟩⟩;have M1:=s8.trans s9;refine⟨fo,NI,_,rfl,rfl,M1 _ _ Lh,aA (by lia),⟨_,rfl⟩,(s7.trans M1).put Ms,Lu.trans ((But.of_same M1).trans But.upd), ?_⟩;rw[AN,K3];have:=Acc.add s7 M1 Lh Nm (og (ps:=p::r) M1 (s8.free n9) h9);simpa using this
     .rintro σ H7 ⟨⟨v5,rfl⟩,s7,_,LZ⟩;refine⟨⟨_,_,_,rfl⟩,s7, ?_⟩;rw[KG,AR,<-eG,<-cQ] at LZ;exact LZ
    .refine⟨⟨_,_,_,rfl⟩,s4,stay ?_⟩;unfold df;rw[Ky];exact A6 c2
   .rintro σ H3 ⟨⟨v3,v4,v5,rfl⟩,s3,Kc⟩;rw[KC] at Kc;exact⟨_,rfl,kk fo H3 s3 Ms (Kc.is Ms)⟩
theorem Jv:OKQ T.X39 P w base 1 spLie:=by
 refine FbO T.X39 Gc fun _ _ _ _ H vs Q E hr h=> ?_;obtain⟨v,ps,n,rfl,hv,hl,kk⟩:=h;refine⟨_,(ai (ao (bi (zI rfl) (by rfl) T.n_any boot_any (ab (cq (XN:=["number","lifts"]) (sc:=al j8) (N:=["lift","number"]) (own:=1) (js:=[0]) rfl (by ac_nf) rfl rfl (aY (pv 1)) (fun _ _ _ _=>(bm (i:=0) (show List.Nodup (["lift","number"]:O4 Str) by ac_nf) rfl (Or.inl rfl) (.inr rfl))) (cg (by decide)) (fun _ _ _ _=>cp) (fun _ _ _ _=>(xO cK cK (aw aG (pv 0) ag (fun _ _=>rfl)) (pv 1) (aw aG (pv 0) ag (fun _ _=>rfl))))) af)))), ?_⟩;obtain⟨da,Ki,rfl,Kp,Kx⟩:=aB hv;have KC:Ki.length=ps.length:=by rw[Kx.length,A1]
 refine⟨_,rfl,da,rfl,⟨_,SqL.of Kp⟩,fun acc na=> ?_⟩;refine dk (xs:=Ki) (own:=1) (js:=[0]) (fun j H4=>ae H H4/\H4 acc=some (.lst (((ps.take j).map fun p=>decide (p.1<n)&&decide (n<p.2.1)).map V.bl))) ⟨ae.new na,ak⟩ (fun j H4 _ h=>SqL.of (h.1 _ _ Kp)) ?_ ?_ ci cr ?_
 .rintro j x H4 hj ⟨s4,Kc⟩;obtain⟨p,Ky,hy⟩:=bd Kx hj;have lenv:(((ps.take j).map fun p=>decide (p.1<n)&&decide (n<p.2.1)).map V.bl).length<=1000:=by rw[A1,A1,Ac];lia
  refine dm ?_;refine⟨_,rfl,_,0,_,hy.mono s4,rfl,rfl,fun u hu=> ?_⟩;rw[az hu];refine⟨_,rfl,_,_,rfl,rfl,_,rfl,aX (fun c1=> ?_) (fun c1=> ?_)⟩
  .refine⟨_,rfl,_,1,_,hy.mono s4,rfl,rfl,fun u hu=> ?_⟩;rw[az hu];refine⟨_,_,rfl,rfl,acc,_,_,rfl,rfl,Kc,aA lenv,s4.put na, ?_⟩;rw[ak,AN,Ky,A5,A5];have c1:p.1<n:=c1;simp[c1]
  .refine⟨acc,_,_,rfl,rfl,Kc,aA lenv,s4.put na, ?_⟩;rw[ak,AN,Ky,A5,A5];have c1:¬p.1<n:=c1;simp[c1]
 .rintro H4 ⟨s4,Kc⟩;rw[KC,AR] at Kc;refine⟨acc,_,rfl,SqL.of Kc, ?_⟩;have e:(ps.map fun p=>decide (p.1<n)&&decide (n<p.2.1)).any id=gi n ps:=by
   unfold gi;rw[List.any_map];rfl
  rw[e];exact kk H4 s4
 .rintro σ H R R' k ⟨v1,e1,xs,i,d,h1,e2,e3,h⟩;refine⟨v1,e1,xs,i,d,h1,e2,e3,fun u hu=> ?_⟩;obtain⟨v2,e4,i1,j1,e5,e6,b,e7,h⟩:=h u hu;refine⟨v2,e4,i1,j1,e5,e6,b,e7, ?_⟩;cases b with
  |true=>
   obtain⟨v1,e1,xs,i,d,h1,e2,e3,h⟩:=h;refine⟨v1,e1,xs,i,d,h1,e2,e3,fun u hu=> ?_⟩;obtain⟨i1,j1,e5,e6,h⟩:=h u hu;exact⟨i1,j1,e5,e6,k _ _ h⟩
  |false=>exact k _ _ h
theorem Jw:OKQ T.X40 P w base 2 spIsT:=by
 refine FbO T.X40 uh fun _ _ _ _ H vs Q E hr h=> ?_;obtain⟨v,ps,rfl,hv,hl,Kt,hb,kk⟩:=h;refine⟨_,(aj (iG (i:=1) uh.nd rfl (by trivial) (.inl rfl) (XN:=["lifts","between"]) (sc:=al j9) (N:=["number","lifts"]) (own:=1) (js:=[0]) rfl (by ac_nf) rfl rfl (cS (by rfl) T.n_range (ab ag (ab (pcq (ik T) hr T.X36 (ab (pv 0) af)) af))) (fun _ _ _ _=>(bm (i:=0) (show List.Nodup (["number","lifts"]:O4 Str) by ac_nf) rfl (Or.inl rfl) (.inr rfl))) (cg (by decide)) (fun _ _ _ _=>cp) (fun _ _ _ _=>(pcq (Jv T) hr T.X39 (ab (pv 0) (ab (pv 1) af)))))
  (ai (ao (ju (eO cn (aw aG (aw eR (pv 0) ag (fun _ _=>rfl)) ag (fun _ _=>rfl)) ag (aF _)) (ip (bi (zH rfl) (by rfl) T.n_all boot_all (ab (pv 1) af))))))), ?_⟩
 have m:aP ps∈ps.map (·.2.1):=o6 (by rw[A1];exact List.length_pos_iff.mpr Kt);obtain⟨q,hq,e⟩:=Af.mp m;have e:q.2.1=aP ps:=e;have hq:=hb q hq;refine⟨_,rfl,v,ps,rfl,hv,Kt,hl,fun H1 s1=> ?_⟩;refine⟨1,_,rfl,⟨by decide,by decide,by lia,by lia⟩,fun acc na=> ?_⟩;rw[show(aP ps-1).toNat=(aP ps).toNat-1 by lia];refine fR (lo:=1) (n:=(aP ps).toNat-1) (own:=1) (js:=[0]) (fun i H2=>ae H1 H2/\i<=100/\H2 acc=some (.lst (((List.range i).map fun i:Nat=>gi (1+(i:Int)) ps).map V.bl))) ⟨ae.new na,by lia,ak⟩ ?_ ?_ ci cr ?_
 .rintro i H2 hi ⟨s2,Lq,Kc⟩;refine dm ?_;refine⟨_,rfl,_,rfl,v,ps,_,rfl,hv.mono (s1.trans s2),hl,fun H3 s3=> ?_⟩;refine⟨acc,_,_,rfl,rfl,s3 _ _ Kc,aA (by rw[A1,A1,BK];lia),(s2.trans s3).put na,by lia, ?_⟩;rw[ak,B0,A5,A5];rfl
 .rintro H2 ⟨s2,_,Kc⟩;obtain⟨p0,r0,rfl⟩:∃p0 r0,ps=p0::r0:=by
   cases ps with
   |nil=>exact absurd rfl Kt
   |cons p r=>exact⟨p,r,rfl⟩
  have My:=hv.mono (s1.trans s2);refine⟨_,rfl,_,0,lf p0,My,rfl,fT (j:=0) rfl rfl,fun u hu=>⟨_,0,_,hu,rfl,rfl,fun u2 Lj=> ?_⟩⟩;rw[az Lj];refine⟨rfl,_,rfl,cM (fun c=> ?_) (fun c=> ?_)⟩
  .refine⟨_,rfl,acc,_,rfl,SqL.of Kc, ?_⟩;have e:((List.range ((aP (p0::r0)).toNat-1)).map fun i:Nat=>gi (1+(i:Int)) (p0::r0)).all id=dO (p0::r0):=by
    unfold dO;have:(List.getD (p0::r0) 0 (1,0,0)).1=0:=c;rw[Ag this,Bool.true_and,List.all_map];rfl
   rw[e];exact kk H2 (s1.trans s2)
  .have e:dO (p0::r0)=false:=by
    unfold dO;have:¬(List.getD (p0::r0) 0 (1,0,0)).1=0:=c;rw[AX this];rfl
   have:=kk H2 (s1.trans s2);rw[e] at this;exact this
 .rintro σ H R R' k ⟨v1,e1,v2,e2,v3,qs,n,e3,h1,h2,h⟩;exact⟨v1,e1,v2,e2,v3,qs,n,e3,h1,h2,fun H' s'=>k _ _ (h H' s')⟩
theorem Jx:FnOk P w K mg base (CX0) 8 T.f41 T.d41 ["k"] spTemQ:=by
 refine FbO T.X41 Gd fun _ _ _ _ H vs Q E hr h=> ?_;obtain⟨n,rfl,i1,i2,k2⟩:=h;refine⟨_,(aj (aT (pcq (fH T) hr T.X1 (ab (pv 0) (ab ag (ab ag af)))))
  (ai (ao (bi (lZ hr) (by rfl) T.n_sorted boot_sorted (ab (cq (XN:=["k"]) (sc:=al j') (N:=["lifts"]) (own:=1) (js:=[]) rfl (by ac_nf) rfl rfl (aY (pcq (wB T 4) hr T.X38 (ab (pcq (Ju T) hr T.X37 (ab (pv 0) af)) (ab (pv 0) af)))) (fun _ _ _ _=>(bm (i:=0) (show List.Nodup (["lifts"]:O4 Str) by ac_nf) rfl (Or.inl rfl) (.inr rfl))) (cg (by decide)) (fun _ _ _ _=>(iD (dQ (pcq (Jw T) hr T.X40 (ab (pv 0) af))))) (fun _ _ _ _=>(pv 0))) af))))), ?_⟩
 refine⟨_,rfl,(n:Int),1,3,rfl,by lia,by lia, ?_⟩;obtain⟨b1,b2,b3,_⟩:=HL (k:=n) (by lia) (by lia);have hb:=b1;unfold okT at hb;simp only[A9,AU,AS] at hb;obtain⟨⟨⟨l1,l2⟩,l3⟩,l4⟩:=hb;have lg:∀p∈bS n (n+1),Lok p/\1<=aV p:=fun p hp=>by
  have:=l1 p hp;unfold lgB at this;simp only[A9,AU] at this;exact⟨⟨by lia,by lia,by lia,by lia⟩,by lia⟩
 refine⟨_,rfl,n,rfl,by lia,fun l0 H1 s1 NJ Mj=> ?_⟩;refine⟨_,rfl, .ref l0,bS n (n+1),n,rfl,Mj,lg,by lia,by lia,by lia,by lia,by decide,fun rl H2 s2 Ls Lz=> ?_⟩;have L0:=s1.trans s2;have Lz:=Lz.mono (kw s1);obtain⟨_,KF,e,Mh,KW⟩:=aB Lz;cases e;have hrl2:H2 rl=some (.lst KF):=bE _ _ Mh;have KG:KF.length=(bY 4 (bS n (n+1)) n).length:=by rw[KW.length,A1]
 have item:∀r∈bY 4 (bS n (n+1)) n,r≠[]/\r.length<=4/\∀p∈r,1<=p.2.1/\p.2.1<=100:=fun r hr=>by
  obtain⟨a,d⟩:=pI (fun q hq=>(lg q hq).2) hr;refine⟨IL (by lia) hr,a,fun p hp=> ?_⟩;have:=l1 p (d p hp);unfold lgB at this;simp only[A9,AU] at this;exact⟨by lia,by lia⟩
 refine⟨rl,rfl,⟨_,SqL.of hrl2⟩,fun acc na=> ?_⟩;refine dk (xs:=KF) (own:=1) (js:=[]) (fun j H3=>ae H2 H3/\∃vs,H3 acc=some (.lst vs)/\Iss (nw H H2) ((((bY 4 (bS n (n+1)) n).take j).filter dO).map lfs) vs) ⟨ae.new na,[],ak,ap⟩ (fun j H3 _ h=>SqL.of (h.1 _ _ hrl2)) ?_ ?_ ci ?_ ?_
 .rintro j y H3 hj ⟨s3,vs,Kc,hi⟩;obtain⟨r,K3,hy⟩:=bd KW hj;obtain⟨r1,r2,r3⟩:=item r (AV K3);have vl:vs.length<=900:=by
   rw[hi.length,A1];refine B7 (Br _ _) ?_;rw[Ac];lia
  refine⟨_,rfl,y,r,rfl,(hy.mono bE).mono s3,by lia,r1,r3,fun H4 s4=>⟨dO r,rfl, ?_⟩⟩;cases hT:dO r with
  |true=>
   refine dC ⟨_,rfl,acc,vs,_,rfl,rfl,s4 _ _ Kc,aA (by lia),(s3.trans s4).put na,_,ak, ?_⟩;rw[AN,K3,BG];have ef:(Option.toList (some r)).filter dO=[r]:=by simp[hT]
   rw[ef,A5];exact hi.append (am hy ap)
  |false=>
   refine bn ⟨s3.trans s4,vs,s4 _ _ Kc, ?_⟩;rw[AN,K3,BG];have ef:(Option.toList (some r)).filter dO=[]:=by simp[hT]
   rw[ef,B5];exact hi
 .rintro H5 ⟨s5,vs,Kc,hi⟩;rw[KG,AR] at hi;have hi:Iss (nw H H2) ((bt n).map lfs) vs:=hi;have LG:=L0.trans s5;have hv5:Iss H5 ((bt n).map lfs) vs:=(hi.mono bE).mono s5;have LX:vs.length=(bt n).length:=by rw[hi.length,A1]
  by_cases Kf:(bt n).length<2
  .refine .inl ⟨acc,vs,rfl,SqL.of Kc,by lia,fun q nq=>k2 q _ (LG.put (LG.free nq)) (LG.free nq) ?_⟩;have:sT n=bt n:=by unfold sT;rw[A8 Kf]
   rw[this];exact aD (by rw[bV (LG.free nq)];exact ak) (hi.mono (eA (s5.trans (ae.new nq))))
  .obtain⟨p,hp,Op,L7⟩:=b2 Kf;refine .inr ⟨acc,vs,cD (bt n),p,rfl,SqL.of Kc,by lia,by lia,Op,fun r K3=> ?_,fun i j bb hb=> ?_,by rw[LX];exact hp,fun i hi=>by rw[LX];exact L7 i hi,fun q nq=>k2 q _ (LG.put (LG.free nq)) (LG.free nq) ?_⟩
   .obtain⟨i,hi,rfl⟩:=CI.mp K3;obtain⟨w,_,hy⟩:=bd hv5 (A2 hi);obtain⟨a,ys,e1,e2,_⟩:=aB hy;exact⟨a,ys,e1,SqL.of e2⟩
   .unfold cD at hb;obtain⟨w1,h1,hb⟩:=AA.mp hb;obtain⟨w2,h2,rfl⟩:=AC.mp hb;obtain⟨x,hx,Ku⟩:=hv5.get (j:=i) (x:=lfs w1) (by rw[AF,h1];rfl);obtain⟨y,hy,Lk⟩:=hv5.get (j:=j) (x:=lfs w2) (by rw[AF,h2];rfl);exact⟨x,y,hx,hy,uu Ku Lk⟩
   .have:sT n=p.toList.map fun i=>(bt n).getD i []:=by
     unfold sT oT;rw[A6 Kf,hp];rfl
    rw[this];exact aD (by rw[bV (LG.free nq)];exact ak) ((vA hi p.toList L7).mono (eA (s5.trans (ae.new nq))))
 .rintro σ H R R' k' ⟨v1,e1,v2,ps,e2,h1,h2,h3,h4,h⟩;refine⟨v1,e1,v2,ps,e2,h1,h2,h3,h4,fun H' s'=> ?_⟩;obtain⟨b,e3,h⟩:=h H' s';exact⟨b,e3,k' _ _ h⟩
 .rintro σ H R R' k' ⟨v1,e1,h⟩;exact⟨v1,e1,k' _ _ h⟩
theorem wC:OKQ T.X42 P w base 1 spLoad:=by
 refine FbO T.X42 Ge fun _ _ _ _ H vs Q E hr h=> ?_;obtain⟨v,ps,j,rfl,hv,hl,kk⟩:=h;refine⟨_,(ai (ao (bi (gF rfl) (by rfl) T.n_sum Da (ab (cq (XN:=["template","j"]) (sc:=al kc) (N:=["lift","j"]) (own:=1) (js:=[1]) rfl (by ac_nf) rfl rfl (aY (pv 0)) (fun _ _ _ _=>(bm (i:=0) (show List.Nodup (["lift","j"]:O4 Str) by ac_nf) rfl (Or.inl rfl) (.inr rfl))) (cg (by decide)) (fun _ _ _ _=>(iD (qv cK eN (aw aG (pv 0) ag (fun _ _=>rfl)) (pv 1) (aw aG (pv 0) ag (fun _ _=>rfl))))) (fun _ _ _ _=>(aw aG (pv 0) ag (fun _ _=>rfl)))) af)))), ?_⟩;obtain⟨da,Ki,rfl,Kp,Kx⟩:=aB hv;have KC:Ki.length=ps.length:=by rw[Kx.length,A1]
 refine⟨_,rfl,da,rfl,⟨_,SqL.of Kp⟩,fun acc na=> ?_⟩;refine dk (xs:=Ki) (own:=1) (js:=[1]) (fun i H4=>ae H H4/\H4 acc=some (.lst ((((ps.take i).filter (inF j)).map (·.2.2)).map V.int))) ⟨ae.new na,ak⟩ (fun i H4 _ h=>SqL.of (h.1 _ _ Kp)) ?_ ?_ ci ?_ ?_
 .rintro i x H4 hj ⟨s4,Kc⟩;obtain⟨p,Ky,hy⟩:=bd Kx hj;have L8:Is H4 (lf p) x:=hy.mono s4;have stay:inF j p=false->H4 acc=some (.lst ((((ps.take (i+1)).filter (inF j)).map (·.2.2)).map V.int)):=fun e=>by
   rw[Kc,AN,Ky,BG,A5,A5];simp[e]
  refine⟨_,rfl,_,0,_,L8,rfl,rfl,fun u hu=> ?_⟩;rw[az hu];refine⟨_,rfl,_,_,rfl,rfl,_,rfl,aX (fun h1=> ?_) (fun h1=> ?_)⟩
  .refine⟨_,rfl,_,1,_,L8,rfl,rfl,fun u hu=> ?_⟩;rw[az hu];refine⟨_,_,rfl,rfl,_,rfl,aX (fun h2=> ?_) (fun h2=> ?_)⟩
   .have e:inF j p=true:=by unfold inF;rw[Ag h1,Ag h2];rfl
    refine⟨_,rfl,_,2,_,L8,rfl,rfl,fun u hu=> ?_⟩;rw[az hu];refine⟨acc,_,_,rfl,rfl,Kc,aA ?_,s4.put na, ?_⟩
    .rw [A1,A1];have:=Br (inF j) (ps.take i);rw[Ac] at this;lia
    .rw [ak,AN,Ky,BG,A5,A5];simp[e]
   .exact⟨s4,stay (by unfold inF;rw[AX h2,C9])⟩
  .exact⟨false,rfl,bn ⟨s4,stay (by unfold inF;rw[AX h1];rfl)⟩⟩
 .rintro H4 ⟨s4,Kc⟩;rw[KC,AR] at Kc;exact⟨acc,_,rfl,SqL.of Kc,kk H4 s4⟩
 .rintro σ H R R' k h;obtain⟨v1,e1,xs,i,d,h1,e2,e3,h⟩:=h;refine⟨v1,e1,xs,i,d,h1,e2,e3,fun u hu=> ?_⟩;obtain⟨v2,e4,i1,j1,e5,e6,b,e7,h⟩:=h u hu;refine⟨v2,e4,i1,j1,e5,e6,b,e7, ?_⟩;cases b with
  |true=>
   obtain⟨v1,e1,xs,i,d,h1,e2,e3,h⟩:=h;refine⟨v1,e1,xs,i,d,h1,e2,e3,fun u hu=> ?_⟩;obtain⟨i1,j1,e5,e6,b,e7,h⟩:=h u hu;exact⟨i1,j1,e5,e6,b,e7,k _ _ h⟩
  |false=>
   obtain⟨b,e7,h⟩:=h;exact⟨b,e7,k _ _ h⟩
 .rintro σ H R R' k ⟨v1,e1,xs,i,d,h1,e2,e3,h⟩;exact⟨v1,e1,xs,i,d,h1,e2,e3,fun u hu=>k _ _ (h u hu)⟩
theorem wD:OKQ T.X43 P w base 2 spLeast:=by
 refine FbO T.X43 Gf fun _ _ _ _ H vs Q E hr h=> ?_;obtain⟨v,ps,rfl,hv,hok,kk⟩:=h;refine⟨_,(ai (ao (bi (rA rfl) (by rfl) T.n_max boot_max (ab (cq (XN:=["template"]) (sc:=al ke) (N:=["j","template"]) (own:=1) (js:=[0]) rfl (by ac_nf) rfl rfl (cS (by rfl) T.n_range (ab ag (ab (ah aC (pcq (ik T) hr T.X36 (ab (pv 0) af)) ag) af))) (fun _ _ _ _=>(bm (i:=0) (show List.Nodup (["j","template"]:O4 Str) by ac_nf) rfl (Or.inl rfl) (.inr rfl))) (cg (by decide)) (fun _ _ _ _=>cp) (fun _ _ _ _=>(ah aC (ah aK (pcq (wC T) hr T.X42 (ab (pv 1) (ab (pv 0) af))) (pv 0)) ag))) af)))), ?_⟩;have ln:=HE hok;obtain⟨n,hn⟩:=B1 (show 0<=aP ps by lia);have Kt:ps≠[]:=by obtain⟨_,_,p,hm,_⟩:=hok;rintro rfl;cases hm
 refine⟨_,rfl,v,ps,rfl,hv,Kt,hok.1,fun H1 s1=> ?_⟩;rw[hn];refine⟨_,_,rfl,rfl,1,_,rfl,⟨by decide,by decide,by lia,by lia⟩,fun acc na=> ?_⟩;have en:((n:Int)+1-1).toNat=n:=by lia
 rw[en];refine fR (lo:=1) (n:=n) (own:=1) (js:=[0]) (fun i H2=>ae H1 H2/\H2 acc=some (.lst ((fk ps i).map V.int))) ⟨ae.new na,ak⟩ ?_ ?_ ci cr ?_
 .rintro i H2 hi ⟨s2,Kc⟩;refine dm ?_;refine⟨_,rfl,_,rfl,v,ps,_,rfl,hv.mono (s1.trans s2),hok.1,fun H3 s3=> ?_⟩;refine⟨_,rfl,_,_,rfl,rfl,_,_,rfl,rfl,acc,_,_,rfl,rfl,s3 _ _ Kc,aA (by rw[A1,o7];lia),(s2.trans s3).put na, ?_⟩;rw[ak];unfold fk;rw[B0,A5,A5];rfl
 .rintro H2 ⟨s2,Kc⟩;rw[hn,An] at kk;exact⟨acc,_,rfl,SqL.of Kc,by rw[o7];lia,kk H2 (s1.trans s2)⟩
 .rintro σ H R R' k ⟨v1,e1,v2,e2,v3,qs,j,e3,h1,h2,h⟩;refine⟨v1,e1,v2,e2,v3,qs,j,e3,h1,h2,fun H' s'=> ?_⟩;obtain⟨v4,e4,i1,j1,e5,e6,i2,j2,e7,e8,h⟩:=h H' s';exact⟨v4,e4,i1,j1,e5,e6,i2,j2,e7,e8,k _ _ h⟩
theorem Jy:OKQ T.X44 P w base 10 spWords:=by
 refine FbO T.X44 nz fun Kz A outer s H vs Q E hr h=> ?_;obtain⟨v,ps,pl,rfl,hv,tp,p1,p20,hmk,kk⟩:=h;refine⟨_,(aj (aU (aM cK (pv 1) (pcq (wD T) hr T.X43 (ab (pv 0) af)) (aF _)) (ai (ao ag)) aS)
  (aj (iG (i:=2) nz.nd rfl (by trivial) (.inl rfl) (XN:=["template","place","marks","j"]) (sc:=al kf) (N:=["i","j","w"]) (own:=3) (js:=[]) rfl (by ac_nf) rfl rfl (aY (pv 0)) (fun _ _ _ _=>(jK (K:=K) rfl rfl (aO (bm (i:=0) (show List.Nodup (["i","j","w"]:O4 Str) by ac_nf) rfl (Or.inl rfl) (.inr rfl)) (aO (bm (i:=1) (show List.Nodup (["i","j","w"]:O4 Str) by ac_nf) rfl (Or.inl rfl) (.inr rfl)) (aO (bm (i:=2) (show List.Nodup (["i","j","w"]:O4 Str) by ac_nf) rfl (Or.inl rfl) (.inr rfl)) b0))))) IM (fun _ _ _ _=>cp) (fun _ _ _ _=>(aZ (ab (ah aC (pv 0) ag) (ab (ah aC (pv 1) ag) (ab (pv 2) af))))))
  (aj (aL AO rfl (cS (by rfl) T.n_range (ab ag (ab (ah aC (pcq (ik T) hr T.X36 (ab (pv 0) af)) ag) af))) (pGA (i:=3) nz.nd) (ai (aT (bQ Aa Bc Bb fN (pv 2) (ab (ah gG (aN (ab (aZ (ab (pv 3) (ab (ah aC (pv 3) ag) (ab ag af)))) af)) (ah aK (ah aK (ah aC (pv 1) (pv 3)) ag) (pcq (wC T) hr T.X42 (ab (pv 0) (ab (pv 3) af))))) af)))))
  (ai (ao (pcq (wb T) hr T.X19 (ab (pcq (ik T) hr T.X36 (ab (pv 0) af)) (ab (pv 2) af)))))))), ?_⟩
 have l1:=tp.l1;have l4:=tp.l4;have l3:=tp.len;have lp:=tp.lea;obtain⟨n,hn⟩:=B1 (show 0<=aP ps by lia);refine⟨_,rfl,_,rfl,v,ps,rfl,hv,tp.okt,fun H1 s1=>⟨_,_,rfl,rfl,_,rfl,aX (fun h=>absurd h (by have:bT ps<=pl:=p1;unfold bT at this;lia)) (fun h=> ?_)⟩⟩;rw[<-IP,hn,An] at kk hmk;obtain⟨da,Ki,rfl,Kp,Kx⟩:=aB hv;have KC:Ki.length=ps.length:=by rw[Kx.length,A1]
 refine⟨_,rfl,da,rfl,⟨_,SqL.of (s1 _ _ Kp)⟩,fun acc na=> ?_⟩;have nacc:H acc=none:=s1.free na;refine dk (xs:=Ki) (own:=3) (js:=[]) (fun j H4=>ae H1 H4/\∃vs,H4 acc=some (.lst vs)/\Iss H4 (((ps.take j).map upM).map lf) vs) ⟨ae.new na,[],ak,ap⟩ (fun j H4 _ h=>SqL.of (h.1 _ _ (s1 _ _ Kp))) ?_ ?_ IN cr ?_
 .rintro j x H4 hj ⟨s4,vs,Kc,hi⟩;obtain⟨p,Ky,hy⟩:=bd Kx hj;obtain⟨t,rfl,ht⟩:=eY (hy.mono (s1.trans s4));have vl:vs.length<=3:=by rw[hi.length,A1,A1,Ac];lia
  refine⟨t,_,rfl,SqT.of ht,rfl,_,_,rfl,_,_,rfl,_,_,rfl,rfl,y4 ?_⟩;refine⟨_,rfl,_,_,rfl,rfl,_,rfl,_,_,rfl,rfl,_,rfl,(zB rfl),fun t2 H5 nt s5 Nl=>⟨acc,vs,_,rfl,rfl,s5 _ _ Kc,aA (by lia),(s4.trans s5).put na,_,ak, ?_⟩⟩;rw[AN,Ky,A5];refine fb (ay.upd (s5 _ _ Kc)) ?_;rw[A5];exact(hi.mono s5).append (am (eZ (p:=upM p) Nl) ap)
 .rintro H4 ⟨s4,vs,Kc,hi⟩;rw[KC,AR] at hi;have s14:=s1.trans s4;refine⟨_,rfl, .ref da,ps,rfl,hv.mono s14,tp.ne,by lia,fun H5 s5=> ?_⟩;rw[hn];refine⟨_,_,rfl,rfl,1,_,rfl,⟨by decide,by decide,by lia,by lia⟩, ?_⟩;rw[show((n:Int)+1-1).toNat=n by lia];refine cJ (lo:=1) (n:=n) (fun i σ H6=>(∃v3,σ=[some (.ref da),some (.int pl),some (.ref acc),v3])/\ae H H6/\∃vs,H6 acc=some (.lst vs)/\Iss H6 ((mkA ps pl i).map lf) vs) ⟨⟨none,rfl⟩,s14.trans s5,vs,s5 _ _ Kc,by unfold mkA;simpa using hi.mono s5⟩ ?_ ?_
  .rintro i σ H6 Lq ⟨⟨v3,rfl⟩,s6,OG,Li,OH⟩;have ml:=vP tp p20 (n:=i) (by lia);have vl:OG.length=(mkA ps pl i).length:=by rw[OH.length,A1]
   have ld:=tp.load i (by lia);have lg:=vw (ps:=ps) (n:=(aP ps).toNat) (i:=i) (by rw[hn,An];exact Lq);refine⟨_,rfl, .inl ⟨rfl,_,SqL.of Li⟩,_,rfl,_,rfl,_,_,rfl,rfl,(zB rfl),fun t H7 nt s7 ht=>⟨(zB rfl),fun l H8 nl s8 hl=> ?_⟩⟩;refine⟨_,rfl,_,rfl,_,_,rfl,rfl,_,_,rfl,rfl,_,rfl,_,rfl, .ref da,ps,_,rfl,hv.mono ((s6.trans s7).trans s8),by lia,fun H9 s9=>⟨_,_,rfl,rfl, ?_⟩⟩;refine⟨lf (1+(i:Int),1+(i:Int)+1,1),_,(aD hl (am (eZ (s8 _ _ ht)) ap)).mono s9,rfl,by lia,by lia,Ae (aA (by lia)),fun b H10 nb L4 hb=> ?_⟩;obtain⟨_,zs,e,hz,hzi⟩:=aB hb;cases e;have Mn:H10 acc=some (.lst OG):=L4 _ _ (s9 _ _ (s8 _ _ (s7 _ _ Li)));have NN:=((s7.trans s8).trans s9).trans L4;have zl:=hzi.length;rw[B2] at zl;refine⟨acc,b,OG,zs,rfl,rfl,Mn,hz,Ae (aA (by lia)),⟨_,rfl⟩,(s6.trans NN).put nacc,_,ak, ?_⟩;rw[vM,A5,Bu];refine(fb (ay.upd Mn) (OH.mono NN)).append ?_;rw[<-Bu];refine fb (ay.upd Mn) ?_;rw[Bu];exact hzi
  .rintro σ H6 ⟨⟨v3,rfl⟩,s6,OG,Li,OH⟩;refine⟨_,rfl, .ref da,ps,rfl,hv.mono s6,tp.ne,by lia,fun H7 s7=> ?_⟩;refine⟨_,rfl,n, .ref acc,mkA ps pl n,by rw[hn];rfl,by lia,by lia,(aD Li OH).mono s7,hmk.1,hmk.2,fun H8 s8=>kk H8 ((s6.trans s7).trans s8)⟩
 .rintro σ H R R' k ⟨v1,e1,i1,j1,e2,e3,v2,e4,i2,j2,e5,e6,v3,e7,h1,h⟩;exact⟨v1,e1,i1,j1,e2,e3,v2,e4,i2,j2,e5,e6,v3,e7,h1,fun p H2 n s h'=>k _ _ (h p H2 n s h')⟩
theorem Jz:OKQ T.X45 P w base 2 spLas:=by
 refine FbO T.X45 nA fun _ _ _ _ H vs Q E hr h=> ?_;obtain⟨v,ps,d,rfl,hv,tp,kk⟩:=h;refine⟨_,(aj (pSA (i:=2) nA.nd (pcq (ik T) hr T.X36 (ab (pv 1) af)))
  (aj (iG (i:=3) nA.nd rfl (by trivial) (.inl rfl) (XN:=["d","template","reached","heavy"]) (sc:=al kg) (N:=["lift","reached"]) (own:=1) (js:=[2]) rfl (by ac_nf) rfl rfl (aY (pv 1)) (fun _ _ _ _=>(bm (i:=0) (show List.Nodup (["lift","reached"]:O4 Str) by ac_nf) rfl (Or.inl rfl) (.inr rfl))) (cg (by decide)) (fun _ _ _ _=>(iD (jt (aM cn (aw aG (pv 0) ag (fun _ _=>rfl)) (pv 1) (aF _)) (jr (aM dR (aw aG (pv 0) ag (fun _ _=>rfl)) ag (aF _)))).pt)) (fun _ _ _ _=>(pv 0)))
  (ai (ao (qe (xR (pv 3) (fun _=>rfl)) (ah aK (pv 0) (pv 2)) (ah aK (ah aC (pv 0) ag) (pv 2))))))), ?_⟩
 have l3:=tp.len;obtain⟨da,Ki,rfl,Kp,Kx⟩:=aB hv;have KC:Ki.length=ps.length:=by rw[Kx.length,A1]
 refine⟨_,rfl, .ref da,ps,rfl,hv,tp.ne,by lia,fun H1 s1=> ?_⟩;refine⟨_,rfl,da,rfl,⟨_,SqL.of (s1 _ _ Kp)⟩,fun acc na=> ?_⟩;refine dk (xs:=Ki) (own:=1) (js:=[2]) (fun i H4=>ae H1 H4/\∃vs,H4 acc=some (.lst vs)/\vs.length=((ps.take i).filter (hvB (aP ps))).length) ⟨ae.new na,[],ak,rfl⟩ (fun i H4 _ h=>SqL.of (h.1 _ _ (s1 _ _ Kp))) ?_ ?_ ci ?_ ?_
 .rintro i x H4 hj ⟨s4,vs,Kc,vl⟩;obtain⟨p,Ky,hy⟩:=bd Kx hj;have L8:Is H4 (lf p) x:=hy.mono (s1.trans s4);have fl:=Br (hvB (aP ps)) (ps.take i);rw[Ac] at fl;have stay:hvB (aP ps) p=false->vs.length=((ps.take (i+1)).filter (hvB (aP ps))).length:=fun e=>by
   rw[vl,AN,Ky,BG];simp[e]
  refine⟨_,rfl,_,1,_,L8,rfl,rfl,fun u hu=> ?_⟩;rw[az hu];refine⟨_,rfl,rfl,_,rfl,cM (fun h1=> ?_) (fun h1=> ?_)⟩
  .refine⟨_,rfl,_,2,_,L8,rfl,rfl,fun u hu=> ?_⟩;rw[az hu];refine⟨_,_,rfl,rfl,_,rfl,aX (fun h2=> ?_) (fun h2=> ?_)⟩
   .have e:hvB (aP ps) p=true:=by unfold hvB;rw[Ag h1,Ag h2];rfl
    refine⟨_,rfl,acc,vs,_,rfl,rfl,Kc,aA (by lia),s4.put na,_,ak, ?_⟩;rw[A',vl,AN,Ky,BG];simp[e]
   .exact⟨s4,vs,Kc,stay (by unfold hvB;rw[AX h2,C9])⟩
  .exact bn ⟨s4,vs,Kc,stay (by unfold hvB;rw[AX h1];rfl)⟩
 .rintro H4 ⟨s4,vs,Kc,vl⟩;rw[KC,AR] at vl;unfold ic at kk;by_cases h0:(ps.filter (hvB (aP ps))).length=0
  .rw [A8 h0] at kk;have:vs=[]:=CN.mp (by rw[vl,h0]);subst this;exact⟨_,rfl,false, .inl ⟨_,SqL.of Kc,rfl⟩,bn ⟨_,rfl,_,_,rfl,rfl,_,rfl,_,_,rfl,rfl,kk H4 (s1.trans s4)⟩⟩
  .rw [A6 h0] at kk;have Kt:vs≠[]:=fun z=>h0 (by rw[<-vl,z];rfl);exact⟨_,rfl,true, .inl ⟨_,SqL.of Kc,by simp[Kt]⟩,dC ⟨_,rfl,_,rfl,_,_,rfl,rfl,kk H4 (s1.trans s4)⟩⟩
 .rintro σ H R R' k h;obtain⟨v1,e1,xs,i,d,h1,e2,e3,h⟩:=h;refine⟨v1,e1,xs,i,d,h1,e2,e3,fun u hu=> ?_⟩;obtain⟨v2,e4,e5,b,e7,h⟩:=h u hu;refine⟨v2,e4,e5,b,e7, ?_⟩;cases b with
  |true=>
   obtain⟨v1,e1,xs,i,d,h1,e2,e3,h⟩:=h;refine⟨v1,e1,xs,i,d,h1,e2,e3,fun u hu=> ?_⟩;obtain⟨i1,j1,e5,e6,b,e7,h⟩:=h u hu;exact⟨i1,j1,e5,e6,b,e7,k _ _ h⟩
  |false=>exact k _ _ h
 .rintro σ H R R' k ⟨v1,e1,h⟩;exact⟨v1,e1,k _ _ h⟩
theorem wE {H H':Hp} (s:ay H H'):∀{xs:O4 Rw}{vs:O4 V},Iss H (xs.map rD) vs->Iss H' (xs.map rD) vs
 |[],vs,h=>by rw[bp h];exact ap
 |x::xs,vs,h=>by
  obtain⟨u,us,rfl,h1,h2⟩:=aQ h;exact am (pC s h1) (wE s h2)
theorem wG {d:Int}{c:Nat}:∀{ts:O4 (O4 Lf)},(∀ps∈ts,nP d ps<=5)->(ts.flatMap fun ps=>cy d c ps (nP d ps)).length<=5*ts.length
 |[],_=>by simp
 |ps::ts,h=>by
  have h1:=h ps (by simp);have h2:=wG (d:=d) (c:=c) (ts:=ts) fun p hp=>h p (by simp[hp]);rw[BZ,A',Ad];unfold cy at h2⊢;rw[A1,BK];lia
theorem JA:OKQ T.X46 P w base 11 spSta:=by
 refine FbO T.X46 gU fun _ _ _ _ H vs Q E hr h=> ?_;obtain⟨d,k,rfl,d1,d5,k3,kk⟩:=h;refine⟨_,(aj (pSA (i:=2) gU.nd (aN af))
  (aj (aL AO rfl (cS (by rfl) T.n_range (ab ag (ab (ah aC (pv 1) ag) af))) (pGA (i:=3) gU.nd) (ai (aL AO rfl (aY (pcq (Jx T) hr T.X41 (ab (pv 3) af))) (pGA (i:=4) gU.nd) (ai (aL AO rfl (cS (by rfl) T.n_range (ab (pcq (wD T) hr T.X43 (ab (pv 4) af)) (ab (ah aC (pcq (Jz T) hr T.X45 (ab (pv 0) (ab (pv 4) af))) ag) af))) (pGA (i:=5) gU.nd) (aj (pSA (i:=6) gU.nd (ah bC (pcq (Jy T) hr T.X44 (ab (pv 4) (ab (pv 5) af))) (pcq (wc T) hr T.X13 (ab (pv 4) af))))
  (ai (aT (bQ Aa Ax Aw cU (pv 2) (ab (aZ (ab (pv 3) (ab (pv 5) (ab (ah aC (pv 5) (pcq (ik T) hr T.X36 (ab (pv 4) af))) (ab (pv 6) af))))) af))))))))))
  (ai (ao (pv 2))))), ?_⟩
 refine⟨AQ _,fun fo H1 n1 s1 h1=> ?_⟩;refine⟨_,rfl,_,_,rfl,rfl,1,_,rfl,⟨by decide,by decide,by lia,by lia⟩, ?_⟩;rw[show((k:Int)+1-1).toNat=k by lia];refine cJ (lo:=1) (n:=k) (fun c σ H2=>(∃v3 v4 v5 v6,σ=[some (.int d),some (.int k),some (.ref fo),v3,v4,v5,v6])/\ae H H2/\∃vs,H2 fo=some (.lst vs)/\Iss H2 ((dP (d:Int) c).map rD) vs) ⟨⟨none,none,none,none,rfl⟩,s1,[],h1,ap⟩ ?_ ?_
 .rintro c σ H2 hc ⟨⟨v3,v4,v5,v6,rfl⟩,s2,ME,Ko,Ly⟩;have ec:(1:Int)+(c:Int)=((c+1:Nat):Int):=by lia
  rw[ec];have pl:=(vO d1 d5 (k:=c) (by lia)).2.2;have es:dP (d:Int) (c+1)=dP (d:Int) c++pf (d:Int) (c+1):=cQ _ _;rw[es];unfold pf;generalize dP (d:Int) c=pre at Ly pl⊢;refine⟨_,rfl,c+1,rfl,by lia,by lia,fun l H3 s3 nl hl=> ?_⟩;obtain⟨_,tvs,e,Mo,L6⟩:=aB hl;cases e;have LK:H3 l=some (.lst tvs):=bE _ _ Mo;have tlen:tvs.length=(sT (c+1)).length:=by rw[L6.length,A1]
  have tl30:=IR (c:=c+1) (by lia) (by lia);have lfo:l≠fo:=by rintro rfl;rw[Ko] at nl;cases nl
  have keep:∀{H4:Hp},But fo H3 H4->ae (nw H2 H3) H4:=fun b c' o e=>by
   refine b c' o (bE _ _ e) ?_;rintro rfl;unfold nw at e;rw[Ko] at e;cases e
  have tps:∀ps∈sT (c+1),Tp ps:=fun ps hp=>IQ (by lia) (by lia) hp;generalize sT (c+1)=ts at L6 tlen tl30 tps⊢;refine⟨l,rfl,⟨_,SqL.of LK⟩,bP (xs:=tvs) (fun j σ H4=>(∃v4 v5 v6,σ=[some (.int d),some (.int k),some (.ref fo),some (.int ((c+1:Nat):Int)),v4,v5,v6])/\ae H H4/\But fo H3 H4/\∃vs,H4 fo=some (.lst vs)/\Iss H4 ((pre++(ts.take j).flatMap fun ps=>cy (d:Int) (c+1) ps (nP (d:Int) ps)).map rD) vs) ⟨⟨_,_,_,rfl⟩,s2.trans s3,fun _ _ e _=>e,ME,s3 _ _ Ko,by simpa using Ly.mono s3⟩ (fun j σ H4 _ h=>SqL.of (h.2.2.1 _ _ LK lfo)) ?_ ?_⟩
  .rintro j y σ H4 hj ⟨⟨v4,v5,v6,rfl⟩,s4,KP,Na,M3,Mz⟩;obtain⟨ps,Op,hy⟩:=bd L6 hj;have tp:=tps ps (AV Op);have l3:=tp.len;have jl:j<ts.length:=(AD.mp Op).1;have pl2:=wG (d:=(d:Int)) (c:=c+1) (ts:=ts.take j) fun q hq=>((tps q (DC hq)).np d d1 d5).1;rw[Ac] at pl2;have ez:(ts.take (j+1)).flatMap (fun ps=>cy (d:Int) (c+1) ps (nP (d:Int) ps))=(ts.take j).flatMap (fun ps=>cy (d:Int) (c+1) ps (nP (d:Int) ps))++cy (d:Int) (c+1) ps (nP (d:Int) ps):=by
    rw[AN,Op,BF];simp
   rw[ez,<-BE];have pl3:(pre++(ts.take j).flatMap fun ps=>cy (d:Int) (c+1) ps (nP (d:Int) ps)).length<=450:=by rw[A'];lia
   generalize (pre++(ts.take j).flatMap fun ps=>cy (d:Int) (c+1) ps (nP (d:Int) ps))=pr at Mz pl3⊢;have N9:∀{H5:Hp},But fo H3 H5->Is H5 (lfs ps) y:=fun b=>hy.mono (keep b);obtain⟨np5,npi⟩:=tp.np d d1 d5;have lp:=tp.lea;refine⟨_,rfl,y,ps,rfl,N9 KP,tp.okt,fun H5 s5=>⟨_,rfl,_,rfl,y,ps,d,rfl,N9 (KP.trans (But.of_same s5)),tp,fun H6 s6=> ?_⟩⟩;have hla:ic (d:Int) ps<=10/\bT ps<=100:=by
    have:=tp.l1;have:=tp.l4;refine⟨by unfold ic;split<;>lia, ?_⟩
    obtain⟨i,hi,e⟩:=HF (ps:=ps) (n:=(aP ps).toNat) (by lia);have ld:=HN (ps:=ps) tp.okt (1+(i:Int));unfold bT;lia
   refine⟨_,_,rfl,rfl,_,_,rfl,⟨by show -(2^62)<=bT ps;lia,by show bT ps<2^62;lia,by have:=tp.l4;unfold ic;split<;>lia,by lia⟩, ?_⟩
   have but6:But fo H3 H6:=(KP.trans (But.of_same s5)).trans (But.of_same s6);show∃Wq:Nat->Nat->L2.St->Hp->Prop,_;refine cJ (lo:=bT ps) (n:=nP (d:Int) ps) (fun i σ H7=>(∃v5 v6,σ=[some (.int d),some (.int k),some (.ref fo),some (.int ((c+1:Nat):Int)),some y,v5,v6])/\ae H H7/\But fo H3 H7/\∃vs,H7 fo=some (.lst vs)/\Iss H7 ((pr++cy (d:Int) (c+1) ps i).map rD) vs) ⟨⟨_,_,rfl⟩,(s4.trans s5).trans s6,but6,Na,s6 _ _ (s5 _ _ M3),by unfold cy;simpa using (Mz.mono s5).mono s6⟩ ?_ ?_
   .rintro i σ H7 hi ⟨⟨v5,v6,rfl⟩,s7,Lu,NI,Lh,Nm⟩;obtain⟨i5,imk⟩:=npi i hi;have vl:=Nm.length;rw[A1,A'] at vl;have sl:(cy (d:Int) (c+1) ps i).length=i:=by unfold cy;rw[A1,BK]
    refine⟨_,rfl,_,rfl,y,ps,_,rfl,N9 Lu,tp,by lia,i5,imk,fun H8 s8=> ?_⟩;have OT:=Lu.trans (But.of_same s8);have w0:=tp.w0;have w1:=tp.w1;refine⟨_,rfl,y,ps,0,rfl,N9 OT,(fun p hp=>⟨trivial,by have:=tp.ok p hp;lia,by have:=tp.ok p hp;lia⟩),_,_,rfl,rfl, .inr ⟨by lia,by lia⟩, ?_⟩;have hfo8:=s8 _ _ Lh;refine⟨_,rfl, .inl ⟨rfl,_,SqL.of hfo8⟩,_,rfl,_,rfl,_,rfl,_,rfl,y,ps,rfl,N9 OT,tp.ne,by lia,fun H9 s9=>⟨_,_,rfl,rfl,_,rfl,(zB rfl),fun t H10 nt L4 ht=> ?_⟩⟩;have Nb:=L4 _ _ (s9 _ _ hfo8);refine⟨fo,NI,_,rfl,rfl,Nb,aA (by lia),⟨_,_,rfl⟩,(((s7.trans s8).trans s9).trans L4).put n1,((OT.trans (But.of_same s9)).trans (But.of_same L4)).trans But.upd,_,ak, ?_⟩;have ew:cy (d:Int) (c+1) ps (i+1)=cy (d:Int) (c+1) ps i++[rwC (c+1) ps i]:=by
     unfold cy;rw[B0,A5];rfl
    rw[ew,<-BE,A5];refine(wE (ay.upd Nb) (((Nm.mono s8).mono s9).mono L4)).append (am (pC (ay.upd Nb) (eS (xs:=r4 (rwC (c+1) ps i)) ht)) ap)
   .rintro σ H7 ⟨⟨v5,v6,rfl⟩,s7,Lu,NI,Lh,Nm⟩;exact⟨⟨_,_,_,rfl⟩,s7,Lu,NI,Lh,Nm⟩
  .rintro σ H4 ⟨⟨v4,v5,v6,rfl⟩,s4,KP,Na,M3,Mz⟩;rw[tlen,AR] at Mz;exact⟨⟨_,_,_,_,rfl⟩,s4,Na,M3,Mz⟩
 .rintro σ H2 ⟨⟨v3,v4,v5,v6,rfl⟩,s2,ME,Ko,Ly⟩;exact⟨_,rfl,kk fo H2 s2 n1 (aD Ko Ly)⟩
theorem wH {kd:OZ}{Kb:O4 (O4 Key×V)} (hk:H kd=some (.dT Kb)) (b:But kd H H') {x:D}(h:Is H x v):Is H' x v:=
 h.lts ⟨fun c xs e=>b _ _ e (by rintro rfl;rw[hk] at e;cases e),fun c xs e=>b _ _ e (by rintro rfl;rw[hk] at e;cases e)⟩
theorem JB {f:Int} (hk:k≠0):cdF S (n+1) k f=(S.map fun r=>if r.1<=(k:Int)/\f<=r.2.1 then r.2.2.2*cdF S n ((k:Int)-r.1).toNat r.2.2.1 else 0).sum:=by
 obtain⟨k',rfl⟩:∃k',k=k'+1:=⟨k-1,by lia⟩;rfl
theorem wI:∀n:Nat,FnOk P w K mg base CX0 (n+1) T.f47 T.d47 ["k","first","standing","known"] (spCtd n K)
 |0=>⟨fun vs H Q E h=>(by obtain⟨_,_,_,_,_,_,_,_,_,h,_⟩:=h;exact absurd h (Nat.not_lt_zero _)),fun A outer s H args us vs Q E _ _ _ _ h=>(by obtain⟨_,_,_,_,_,_,_,_,_,h,_⟩:=h;exact absurd h (Nat.not_lt_zero _))⟩
 |n+1=>by
  have ih:=wI n;refine T.X47.F.ok fz (fun vs H Q E h=> ?_) (fun Kz A outer s H vs Q E hr h=> ?_)
  .obtain⟨_,_,_,_,_,_,rfl,_⟩:=h;rfl
  .obtain⟨k,f,v,kd,S,KK,rfl,hv,hkn,hkn',hn5,k3,f9,KK3,hS,hSl,kk⟩:=h;refine⟨_,(aj (aU (aM cn (pv 0) ag (aF _)) (ai (ao ag)) aS)
   (aj (pSA (i:=4) fz.nd (aZ (ab (pv 0) (ab (pv 1) af))))
   (aj (aU (kY (yL (fO hr) (pv 4) (pv 3)) rfl) (aj (pSA (i:=5) fz.nd ag)
   (aj (aL AO rfl (aY (pv 2)) (cA rfl (aO (pGA (i:=6) fz.nd) (aO (pGA (i:=7) fz.nd) (aO (pGA (i:=8) fz.nd) (aO (pGA (i:=9) fz.nd) b0))))) (ai (aU (jt (aM eN (pv 6) (pv 0) (aF _)) (jr (aM ix (pv 7) (pv 1) (aF _)))).pt (ai (fK (i:=5) fz.nd rfl (by trivial) (ah bC (pv 9) (dS ih hr (by rfl) T.X47.m T.X47.F.kp T.X47.B .nil dW (ab (ah aK (pv 0) (pv 6)) (ab (pv 8) (ab (pv 2) (ab (pv 3) af)))))) iu)) aS)))
   (ai (qR (fO hr) (pv 3) (pv 4) (pv 5) rfl)))) aS)
   (ai (ao (qQ (fO hr) (pv 3) (pv 4) (fun _ _=>rfl))))))), ?_⟩
   have hS1:∀r∈S,1<=r.1/\r.1<=3/\0<=r.2.1/\1<=r.2.2.1/\r.2.2.1<=20/\0<=r.2.2.2/\r.2.2.2<2^60:=fun r hr=>by
    have:=hS r hr;unfold rwB at this;simp only[A9,AU] at this;lia
   refine⟨_,rfl,rfl,_,rfl,cM (fun e=> ?_) (fun e=> ?_)⟩
   .obtain rfl:k=0:=by lia
    exact kk H (fun _ _ e _=>e) hkn
   have k0:k≠0:=by lia
   refine⟨_,rfl,_,rfl,(zB rfl),fun t H1 nt s1 ht=> ?_⟩;obtain⟨D,Mb,kn⟩:=hkn;have NO:=s1 _ _ Mb;have ht':H1 t=some (.tup ((bq [(k:Int),(f:Int)]).map kV)):=by rw[jb];exact ht
   have tkd:t≠kd:=by rintro rfl;rw[Mb] at nt;cases nt
   have b1:But kd H H1:=But.of_same s1;have fin:∀{H2:Hp}{D2:Tab},But kd H H2->H2 kd=some (.dT (bh D2))->Kn S D2->H2 t=some (.tup ((bq [(k:Int),(f:Int)]).map kV))->(∃v,D2.find? (fun x=>decide (x.1=[(k:Int),(f:Int)]))=some v)->tDGet_ Q (.ref kd) (.ref t) H2:=fun{H2 D2} b2 h2 NP Nl ⟨x,hx⟩=>by
    have hg:=di.t h2 Nl;rw[kB,hx] at hg;refine⟨kd,_,rfl,hg, ?_⟩;obtain⟨k',f',e1,_,_,e2⟩:=NP.key x (List.mem_of_find?_eq_some hx);have e3:x.1=[(k:Int),(f:Int)]:=by simpa using List.find?_some hx
    rw[e1] at e3;simp only[CF] at e3;have e4:k'=k:=by lia
    have e5:f'=f:=by lia
    subst e4 e5;show Q (.int x.2) H2;rw[e2];exact kk H2 b2 ⟨D2,h2,NP⟩
   refine⟨_,rfl,_,rfl,kd,_,rfl,di.t NO ht', ?_⟩;rw[kB];cases hfind:D.find? (fun x=>decide (x.1=[(k:Int),(f:Int)])) with
   |some x=>
    refine⟨_,rfl,bn ?_⟩;exact⟨_,rfl,_,rfl,fin b1 NO kn ht' ⟨x,hfind⟩⟩
   |none=>
    refine⟨_,rfl,dC ?_⟩;obtain⟨da,Ki,rfl,Kp,Kx⟩:=aB hv;have OU:da≠kd:=by rintro rfl;rw[Mb] at Kp;cases Kp
    have KC:Ki.length=S.length:=by rw[Kx.length,A1]
    refine⟨_,rfl,da,rfl,⟨_,SqL.of (b1 _ _ Kp OU)⟩,bP (xs:=Ki) (fun i σ H2=>(∃v6 v7 v8 v9,σ=[some (.int k),some (.int f),some (.ref da),some (.ref kd),some (.ref t),some (.int (((S.take i).map fun r=>if r.1<=(k:Int)/\(f:Int)<=r.2.1 then r.2.2.2*cdF S 2 ((k:Int)-r.1).toNat r.2.2.1 else 0).sum)),v6,v7,v8,v9])/\But kd H1 H2/\KnD H2 kd S) ⟨⟨none,none,none,none,rfl⟩,(fun _ _ e _=>e),⟨D,NO,kn⟩⟩ (fun i σ H2 _ h=>SqL.of (h.2.1 _ _ (b1 _ _ Kp OU) OU)) ?_ ?_⟩
    .rintro i y σ H2 hi ⟨⟨v6,v7,v8,v9,rfl⟩,b2,D2,MA,NP⟩;obtain⟨r,K3,hy⟩:=bd Kx hi;obtain⟨r1,r2,r3,r4',r5,r6,r7⟩:=hS1 r (AV K3);obtain⟨a,rfl,ha⟩:=bM (xs:=r4 r) hy;have akd:a≠kd:=by rintro rfl;rw[Mb] at ha;cases ha
     have ha2:H2 a=some (.tup ((r4 r).map V.int)):=b2 _ _ (b1 _ _ ha akd) akd;have es:((S.take (i+1)).map fun r=>if r.1<=(k:Int)/\(f:Int)<=r.2.1 then r.2.2.2*cdF S 2 ((k:Int)-r.1).toNat r.2.2.1 else 0).sum=((S.take i).map fun r=>if r.1<=(k:Int)/\(f:Int)<=r.2.1 then r.2.2.2*cdF S 2 ((k:Int)-r.1).toNat r.2.2.1 else 0).sum+(if r.1<=(k:Int)/\(f:Int)<=r.2.1 then r.2.2.2*cdF S 2 ((k:Int)-r.1).toNat r.2.2.1 else 0):=by
      rw[AN,K3,A5,CD];simp
     rw[es];refine⟨a,_,rfl,SqT.of ha2,rfl,_,_,rfl,_,_,rfl,_,_,rfl,_,_,rfl,rfl, ?_⟩;refine⟨_,rfl,_,rfl,_,_,rfl,rfl,_,rfl,aX (fun h1=> ?_) (fun h1=> ?_)⟩
     .refine⟨_,rfl,_,rfl,_,_,rfl,rfl,_,rfl,aX (fun h2=> ?_) (fun h2=> ?_)⟩
      .rw [A8 ⟨h1,h2⟩];obtain⟨k',Mr⟩:=B1 (show 0<=(k:Int)-r.1 by lia);obtain⟨f',hf'⟩:=B1 (show 0<=r.2.2.1 by lia);refine⟨_,rfl,_,rfl,_,rfl,_,rfl,_,_,rfl,rfl,_,rfl,_,rfl,_,rfl,k',f', .ref da,kd,S,KK,by show [V.int ((k:Int)-r.1),V.int r.2.2.1,V.ref da,V.ref kd]++[]=_;rw[Mr,hf'];rfl,wH MA (fun _ _ e _=>e) (wH NO b2 (hv.mono s1)),⟨D2,MA,NP⟩,by lia,by lia,by lia,by lia,KK3,hS,hSl,fun H3 b3 hkn3=> ?_⟩;rw[Mr,An,hf',vQ S (fun r hr=>(hS1 r hr).1) 2 3 k' (f':Int) (by lia) (by lia)];refine⟨_,_,rfl,rfl, .inl ⟨by lia,by lia⟩,_,_,rfl,rfl,⟨_,_,_,_,rfl⟩,b2.trans b3,hkn3⟩
      .rw [A6 (fun z=>h2 z.2),Int.add_zero];exact⟨⟨_,_,_,_,rfl⟩,b2,D2,MA,NP⟩
     .rw [A6 (fun z=>h1 z.1),Int.add_zero];exact bn ⟨⟨_,_,_,_,rfl⟩,b2,D2,MA,NP⟩
    .rintro σ H2 ⟨⟨v6,v7,v8,v9,rfl⟩,b2,D2,MA,NP⟩;rw[KC,AR];have ev:((S.map fun r=>if r.1<=(k:Int)/\(f:Int)<=r.2.1 then r.2.2.2*cdF S 2 ((k:Int)-r.1).toNat r.2.2.1 else 0).sum)=cdF S 3 k (f:Int):=(JB k0).symm;rw[ev];have Nl:H2 t=some (.tup ((bq [(k:Int),(f:Int)]).map kV)):=b2 _ _ ht' tkd;refine⟨_,rfl,_,rfl,_,rfl,kd,_,rfl,gy.t MA Nl (jh (by rw[oE];have:=NP.size;lia)), ?_⟩;rw[oF];refine⟨_,rfl,_,rfl,fin ((b1.trans b2).trans But.upd) ak (NP.put k3 f9 rfl) (by rw[ax tkd];exact Nl) ?_⟩;have:=IS D2 [(k:Int),(f:Int)] (cdF S 3 k (f:Int));exact⟨_,this⟩
theorem JC:OKQ T.X48 P w base 12 spCor:=by
 refine FbO T.X48 Gg fun _ _ _ _ H vs Q E hr h=> ?_;obtain⟨d,k,rfl,d1,d5,k3,kk⟩:=h;refine⟨_,(ai (ao (pcq (wI T 5) hr T.X47 (ab (pv 1) (ab ag (ab (pcq (JA T) hr T.X46 (ab (pv 0) (ab (pv 1) af))) (ab qT af))))))), ?_⟩;obtain⟨c1,c2,c3⟩:=vO d1 d5 k3;refine⟨_,rfl,_,rfl,_,rfl,d,k,rfl,d1,d5,k3,fun l H1 s1 nl hl=>fun kd M6=> ?_⟩;refine⟨k,1, .ref l,kd,dP (d:Int) k,k,rfl,hl.mono (ae.new M6),⟨[],ak,Kn.nil⟩,by lia,by decide,k3,by decide,k3,c2,c3,fun H2 b2 _=> ?_⟩;have s2:ae H H2:=fun c o e=>b2 _ _ (ae.new M6 _ _ (s1 _ _ e)) (by rintro rfl;rw[s1 _ _ e] at M6;cases M6);have:=kk H2 s2;rw[<-c1] at this;exact this
theorem JD:OKQ T.X49 P w base 13 spCor:=by
 refine FbO T.X49 Gh fun _ _ _ _ H vs Q E hr h=> ?_;obtain⟨d,k,rfl,d1,d5,k3,kk⟩:=h;refine⟨_,(aj (aT (pcq (fH T) hr T.X1 (ab (pv 0) (ab ag (ab ag af)))))
  (aj (aT (pcq (fH T) hr T.X1 (ab (pv 1) (ab ag (ab ag af)))))
  (ai (ao (pcq (JC T) hr T.X48 (ab (pv 0) (ab (pv 1) af))))))), ?_⟩
 refine⟨_,rfl,(d:Int),1,12,rfl,by lia,by lia, ?_⟩;refine⟨_,rfl,(k:Int),0,3,rfl,by lia,by lia, ?_⟩;exact⟨_,rfl,_,rfl,d,k,rfl,d1,d5,k3,kk⟩
theorem JE:FnOk P w K mg base (CX0) 4 T.f53 T.d53 ["d"] (spEdQ upE):=by
 refine FbO T.X53 Gk fun _ _ _ _ H vs Q E hr h=> ?_;obtain⟨d,rfl,i1,i2,kk⟩:=h;refine⟨_,(aj (aT (pcq (jn T) hr T.X4 (ab (pv 0) af)))
  (ai (ao (cq (XN:=["d"]) (sc:=al ki) (N:=["x","d"]) (own:=1) (js:=[0]) rfl (by ac_nf) rfl rfl (fq (by rfl) T.n_range (ab (ah aC (pv 0) ag) af)) (fun _ _ _ _=>(bm (i:=0) (show List.Nodup (["x","d"]:O4 Str) by ac_nf) rfl (Or.inl rfl) (.inr rfl))) (cg (by decide)) (fun _ _ _ _=>cp) (fun _ _ _ _=>(aZ (ab (pv 0) (ab (ah aK (pv 1) (pv 0)) af)))))))), ?_⟩
 refine⟨_,rfl,(d:Int),rfl,by lia,by lia, ?_⟩;refine⟨_,rfl,_,_,rfl,rfl,_,rfl,by lia,by lia,fun acc na=> ?_⟩;have en:((d:Int)+1).toNat=d+1:=by lia
 rw[en];refine fR (lo:=0) (n:=d+1) (own:=1) (js:=[0]) (fun i H2=>ae H H2/\cb H2 acc (((List.range i).map fun i:Nat=>((i:Int),(d:Int)-(i:Int))).map pt)) ⟨ae.new na,cb.start⟩ ?_ ?_ ci cr ?_
 .rintro i H2 hi ⟨s2,vs,Kc,Lg⟩;refine dm ?_;refine⟨_,rfl,_,rfl,_,rfl,_,_,rfl,rfl,(zB rfl),fun t H3 nt s3 ht3=> ?_⟩;refine⟨acc,vs,_,rfl,rfl,s3 _ _ Kc,aA (by rw[Lg.length];simp;lia),(s2.trans s3).put na, ?_⟩;rw[B0,A5,A5,Cv] at*
  exact iI (Lg.mono (dq s3)) (fS (p:=((i:Int),(d:Int)-i)) (by rw[dX (bG Kc nt).symm];exact ht3))
 .rintro H2 ⟨s2,g⟩;exact kk acc H2 s2 na g.is
 .rintro σ H R R' k ⟨v1,e1,v2,e2,v3,e3,i2,j2,e4,e5,e6,h⟩;exact⟨v1,e1,v2,e2,v3,e3,i2,j2,e4,e5,e6,fun p H2 np s2 hp=>k _ _ (h p H2 np s2 hp)⟩
theorem JF:FnOk P w K mg base (CX0) 4 T.f54 T.d54 ["d"] (spEdQ loE):=by
 refine FbO T.X54 ui fun _ _ _ _ H vs Q E hr h=> ?_;obtain⟨d,rfl,i1,i2,kk⟩:=h;refine⟨_,(aj (aT (pcq (jn T) hr T.X4 (ab (pv 0) af)))
  (aj (iG (i:=1) ui.nd rfl (by trivial) (.inl rfl) (XN:=["d","down"]) (sc:=al i0) (N:=["step","d"]) (own:=1) (js:=[0]) rfl (by ac_nf) rfl rfl (fq (by rfl) T.n_range (ab (ah aC (pv 0) ag) af)) (fun _ _ _ _=>(bm (i:=0) (show List.Nodup (["step","d"]:O4 Str) by ac_nf) rfl (Or.inl rfl) (.inr rfl))) (cg (by decide)) (fun _ _ _ _=>cp) (fun _ _ _ _=>(aZ (ab ag (ab (ah aK (pv 1) (pv 0)) af)))))
  (ai (ao (ah dE (pv 1) (cq (XN:=["d","down"]) (sc:=al i0) (N:=["x"]) (own:=1) (js:=[]) rfl (by ac_nf) rfl rfl (cS (by rfl) T.n_range (ab ag (ab (ah aC (pv 0) ag) af))) (fun _ _ _ _=>(bm (i:=0) (show List.Nodup (["x"]:O4 Str) by ac_nf) rfl (Or.inl rfl) (.inr rfl))) (cg (by decide)) (fun _ _ _ _=>cp) (fun _ _ _ _=>(aZ (ab (pv 0) (ab ag af)))))))))), ?_⟩
 refine⟨_,rfl,(d:Int),rfl,by lia,by lia, ?_⟩;refine⟨_,rfl,_,_,rfl,rfl,_,rfl,by lia,by lia,fun acc na=> ?_⟩;have en:((d:Int)+1).toNat=d+1:=by lia
 rw[en];refine fR (lo:=0) (n:=d+1) (own:=1) (js:=[0]) (fun i H2=>ae H H2/\cb H2 acc (((List.range i).map fun i:Nat=>((0:Int),(d:Int)-(i:Int))).map pt)) ⟨ae.new na,cb.start⟩ ?_ ?_ ci cr ?_
 .rintro i H2 hi ⟨s2,vs,Kc,Lg⟩;refine dm ?_;refine⟨_,rfl,_,rfl,_,_,rfl,rfl,(zB rfl),fun t H3 nt s3 ht3=> ?_⟩;refine⟨acc,vs,_,rfl,rfl,s3 _ _ Kc,aA (by rw[Lg.length];simp;lia),(s2.trans s3).put na, ?_⟩;rw[B0,A5,A5,Cv] at*
  exact iI (Lg.mono (dq s3)) (fS (p:=((0:Int),(d:Int)-i)) (by rw[dX (bG Kc nt).symm];exact ht3))
 .rintro H2 ⟨s2,g2⟩;refine⟨_,rfl,_,rfl,_,_,rfl,rfl,1,_,rfl,⟨by lia,by lia,by lia,by lia⟩,fun acc2 na2=> ?_⟩;have en2:((d:Int)+1-1).toNat=d:=by lia
  rw[en2];refine fR (lo:=1) (n:=d) (own:=1) (js:=[]) (fun i H3=>ae H2 H3/\cb H3 acc2 (((List.range i).map fun i:Nat=>((1:Int)+(i:Int),(0:Int))).map pt)) ⟨ae.new na2,cb.start⟩ ?_ ?_ ci cr ?_
  .rintro i H3 hi ⟨s3,vs,Kc,Lg⟩;refine dm ?_;refine⟨_,rfl,(zB rfl),fun t H4 nt s4 ht4=> ?_⟩;refine⟨acc2,vs,_,rfl,rfl,s4 _ _ Kc,aA (by rw[Lg.length];simp;lia),(s3.trans s4).put na2, ?_⟩;rw[B0,A5,A5] at*
   exact iI (Lg.mono (dq s4)) (fS (p:=((1:Int)+(i:Int),(0:Int))) (by rw[dX (bG Kc nt).symm];exact ht4))
  .rintro H3 ⟨s3,g3⟩;refine⟨_,_,(g2.mono s3).is,g3.is,Ae (aA (by simp;lia)),fun p H4 np s4 hp4=> ?_⟩;rw[<-A5] at hp4;exact kk p H4 ((s2.trans s3).trans s4) ((s2.trans s3).free np) hp4
  .rintro σ H R R' k ⟨v1,e1,e6,h⟩;exact⟨v1,e1,e6,fun p H2 np s2 hp=>k _ _ (h p H2 np s2 hp)⟩
 .rintro σ H R R' k ⟨v1,e1,v2,e2,i2,j2,e4,e5,e6,h⟩;exact⟨v1,e1,v2,e2,i2,j2,e4,e5,e6,fun p H2 np s2 hp=>k _ _ (h p H2 np s2 hp)⟩
theorem JG:FnOk P w K mg base (CX0) 4 T.f50 T.d50 ["d"] (spEdQ bo):=by
 refine FbO T.X50 kh fun _ _ _ _ H vs Q E hr h=> ?_;obtain⟨d,rfl,i1,i2,kk⟩:=h;refine⟨_,(aj (aT (pcq (jn T) hr T.X4 (ab (pv 0) af)))
  (aj (pSA (i:=1) kh.nd (aN af))
  (aj (aL AO rfl (fq (by rfl) T.n_range (ab (ah aC (pv 0) ag) af)) (pGA (i:=2) kh.nd) (ai (aL AO rfl (zt (by rfl) T.n_range (ab (ah aK (pv 0) (pv 2)) (ab (gp gr ag) (ab (gp gr ag) af)))) (pGA (i:=3) kh.nd) (ai (aT (bQ Aa Ax Aw cU (pv 1) (ab (aZ (ab (pv 2) (ab (pv 3) af))) af)))))))
  (ai (ao (pv 1)))))), ?_⟩
 refine⟨_,rfl,(d:Int),rfl,by lia,by lia, ?_⟩;refine⟨(zB rfl),fun l H1 nl s1 LD=> ?_⟩;have en:((d:Int)+1).toNat=d+1:=by lia
 refine⟨_,rfl,_,_,rfl,rfl,_,rfl,by lia,by lia, ?_⟩;rw[en];refine cJ (n:=d+1) (fun i σ H2=>(∃v2 v3,σ=[some (.int d),some (.ref l),v2,v3])/\ae H H2/\cb H2 l ((fh d i).map pt)) ⟨⟨none,none,rfl⟩,s1,[],LD,ap⟩ ?_ ?_
 .rintro i σ H2 hi ⟨⟨v2,v3,rfl⟩,s2,g2⟩;refine⟨_,rfl,_,rfl,_,_,rfl,rfl,1,rfl,1,rfl,_,_,rfl,⟨by lia,by lia,by decide,by decide⟩, ?_⟩;have en2:((d:Int)-(0+(i:Int))- -1).toNat=d+1-i:=by lia
  rw[en2];refine zu (n:=d+1-i) (fun j σ H3=>(∃v3,σ=[some (.int d),some (.ref l),some (.int (0+i)),v3])/\ae H H3/\cb H3 l ((fh d i++fg d i j).map pt)) ⟨⟨v3,rfl⟩,s2,by simpa[fg] using g2⟩ ?_ ?_
  .rintro j σ H3 hj ⟨⟨v3,rfl⟩,s3,vs,LK,Lg⟩;refine⟨_,rfl, .inl ⟨rfl,_,SqL.of LK⟩,_,rfl,_,rfl,(zB rfl),fun t H4 nt s4 ht4=> ?_⟩;have hln:=G' d i (by lia) (by lia);refine⟨l,vs,_,rfl,rfl,s4 _ _ LK,aA (by rw[Lg.length,A1,A',u8];lia),⟨_,rfl⟩,(s3.trans s4).put nl, ?_⟩;rw[G9,<-BE,A5];refine iI (Lg.mono (dq s4)) (fS (p:=((i:Int),(d:Int)-(i:Int)-(j:Int))) ?_);rw[dX (bG LK nt).symm,ht4,Cv]
  .rintro σ H3 ⟨⟨v3,rfl⟩,s3,g3⟩;rw[<-u7] at g3;exact⟨⟨_,_,rfl⟩,s3,g3⟩
 .rintro σ H2 ⟨⟨v2,v3,rfl⟩,s2,g2⟩;exact⟨_,rfl,kk l H2 s2 nl g2.is⟩
theorem wJ:OKQ T.X52 P w base 1 spCrn:=by
 refine FbO T.X52 Gj fun _ _ _ _ H vs Q E hr h=> ?_;obtain⟨a,b,c,p,q,r,rfl,ha,hb,hc,i1,i2,i3,kk⟩:=h;refine⟨_,(ai (ao (ah aK (ah bC (ah aK (aw aG (pv 1) ag (fun _ _=>rfl)) (aw aG (pv 0) ag (fun _ _=>rfl))) (ah aK (aw aG (pv 2) ag (fun _ _=>rfl)) (aw aG (pv 1) ag (fun _ _=>rfl)))) (ah bC (ah aK (aw aG (pv 1) ag (fun _ _=>rfl)) (aw aG (pv 0) ag (fun _ _=>rfl))) (ah aK (aw aG (pv 2) ag (fun _ _=>rfl)) (aw aG (pv 1) ag (fun _ _=>rfl))))))), ?_⟩;unfold inB at i1 i2 i3;simp only[A9,AU] at i1 i2 i3;refine⟨_,rfl,_,0,_,hb,rfl,rfl,fun u hu=> ?_⟩;rw[az hu];refine⟨_,rfl,_,0,_,ha,rfl,rfl,fun u hu=> ?_⟩;rw[az hu];refine⟨_,_,rfl,rfl,_,rfl,_,1,_,hc,rfl,rfl,fun u hu=> ?_⟩;rw[az hu];refine⟨_,rfl,_,1,_,hb,rfl,rfl,fun u hu=> ?_⟩;rw[az hu];refine⟨_,_,rfl,rfl,_,_,rfl,rfl, .inr ⟨by lia,by lia⟩,_,rfl,_,1,_,hb,rfl,rfl,fun u hu=> ?_⟩;rw[az hu];refine⟨_,rfl,_,1,_,ha,rfl,rfl,fun u hu=> ?_⟩;rw[az hu];refine⟨_,_,rfl,rfl,_,rfl,_,0,_,hc,rfl,rfl,fun u hu=> ?_⟩;rw[az hu];refine⟨_,rfl,_,0,_,hb,rfl,rfl,fun u hu=> ?_⟩;rw[az hu];exact⟨_,_,rfl,rfl,_,_,rfl,rfl, .inr ⟨by lia,by lia⟩,_,_,rfl,rfl,kk⟩
theorem JH:OKQ T.X51 P w base 1 spIsP:=by
 refine FbO T.X51 Gi fun _ _ _ _ H vs Q E hr h=> ?_;obtain⟨d,v,p,rfl,hv,kk⟩:=h;refine⟨_,(ai (ao (ju (eO ix (aw aG (pv 1) ag (fun _ _=>rfl)) ag (aF _)) (ju (eO ix (aw aG (pv 1) ag (fun _ _=>rfl)) ag (aF _)) (ip (eO eN (ah aC (aw aG (pv 1) ag (fun _ _=>rfl)) (aw aG (pv 1) ag (fun _ _=>rfl))) (pv 0) (aF _))))))), ?_⟩;unfold br at kk;refine⟨_,rfl,_,0,_,hv,rfl,rfl,fun u hu=> ?_⟩;rw[az hu];refine⟨_,_,rfl,rfl,_,rfl,aX (fun c1=> ?_) (fun c1=> ?_)⟩
 .rw [Ag (show p.1>=0 from c1),Bool.true_and] at kk;refine⟨_,rfl,_,1,_,hv,rfl,rfl,fun u hu=> ?_⟩;rw[az hu];refine⟨_,_,rfl,rfl,_,rfl,aX (fun c2=> ?_) (fun c2=> ?_)⟩
  .rw [Ag (show p.2>=0 from c2),Bool.true_and] at kk;refine⟨_,rfl,_,0,_,hv,rfl,rfl,fun u hu=> ?_⟩;rw[az hu];refine⟨_,rfl,_,1,_,hv,rfl,rfl,fun u hu=> ?_⟩;rw[az hu];exact⟨_,_,rfl,rfl,_,rfl,_,_,rfl,rfl,kk⟩
  .rw [AX (show¬p.2>=0 from c2),Cw] at kk;exact kk
 .rw [AX (show¬p.1>=0 from c1),Cw] at kk;exact kk
theorem JI:OKQ T.X55 P w base 2 spTurn:=by
 refine FbO T.X55 uj fun _ _ _ _ H vs Q E hr h=> ?_;obtain⟨v,ps,sd,rfl,hv,hB,hs,kk⟩:=h;refine⟨_,(aj (aL AO rfl (cS (by rfl) T.n_range (ab ag (ab (ah aK (bi lG (by rfl) T.n_len boot_len (ab (pv 0) af)) ag) af))) (pGA (i:=2) uj.nd) (ai (aU (aM dR (ah bC (pcq (wJ T) hr T.X52 (ab (aw eR (pv 0) (ah aK (pv 2) ag) (fun _ _=>rfl)) (ab (aw eR (pv 0) (pv 2) (fun _ _=>rfl)) (ab (aw eR (pv 0) (ah aC (pv 2) ag) (fun _ _=>rfl)) af)))) (pv 1)) ag (aF _)) (ai (ao (pv 2))) aS)))
  (ai (ao p7))), ?_⟩
 obtain⟨p1,p2⟩:=vb hB;have hb:∀j,j<ps.length->inB (ps.getD j zP)=true:=fun j hj=>by
  unfold psB at hB;simp only[A9,AS] at hB;exact hB.1 _ (dM hj)
 have sb: -1<=sd/\sd<=1:=by unfold Sd at hs;lia
 refine⟨_,rfl,_,_,rfl, .inl hv,_,_,rfl,rfl,1,_,rfl,⟨by decide,by decide,by rw[A1];lia,by rw[A1];lia⟩, ?_⟩;rw[show((((ps.map pt).length:Nat):Int)-1-1).toNat=ps.length-2 by rw[A1];lia];refine cJ (lo:=1) (n:=ps.length-2) (fun i σ H2=>(∃v2,σ=[some v,some (.int sd),v2])/\H2=H/\∀j,j<i->decide (crn (ps.getD j zP) (ps.getD (j+1) zP) (ps.getD (j+2) zP)*sd>0)=false) ⟨⟨none,rfl⟩,rfl,fun j hj=>absurd hj (by lia)⟩ ?_ ?_
 .rintro i σ H2 hi ⟨⟨v2,rfl⟩,rfl,hn⟩;have a0:=fj (ps:=ps) (j:=i) (by lia);have a1:=fj (ps:=ps) (j:=i+1) (by lia);have a2:=fj (ps:=ps) (j:=i+2) (by lia);refine⟨_,rfl,_,rfl,_,_,rfl,rfl,_,_,_,hv,rfl,by rw[show(1+(i:Int))-1=((i:Nat):Int) by lia];exact a0,fun u0 h0=> ?_⟩;refine⟨_,rfl,_,rfl,_,_,_,hv,rfl,by rw[show(1+(i:Int))=((i+1:Nat):Int) by lia];exact a1,fun u1 h1=> ?_⟩;refine⟨_,rfl,_,rfl,_,_,rfl,rfl,_,_,_,hv,rfl,by rw[show(1+(i:Int))+1=((i+2:Nat):Int) by lia];exact a2,fun u2 h2=> ?_⟩;refine⟨u0,u1,u2,_,_,_,rfl,h0,h1,h2,hb _ (by lia),hb _ (by lia),hb _ (by lia),_,rfl,_,_,rfl,rfl, .inr ⟨by lia,by lia⟩,_,_,rfl,rfl,_,rfl,aX (fun c=> ?_) (fun c=> ?_)⟩
  .refine⟨_,rfl, ?_⟩;have e:bA ps sd=some (i+1):=by
    unfold bA;rw[vc hi hn (Ag c)];rfl
   rw[e] at kk;have:vR (some (i+1))= .int (1+(i:Int)):=by show V.int (((i+1:Nat):Int))=_;congr 1;lia
   rw[this] at kk;exact kk
  .refine⟨⟨_,rfl⟩,rfl,fun j hj=> ?_⟩;by_cases e:j=i
   .rw [e];exact AX c
   .exact hn j (by lia)
 .rintro σ H2 ⟨⟨v2,rfl⟩,rfl,hn⟩;have e:bA ps sd=none:=by
   unfold bA;rw[Hi hn];rfl
  rw[e] at kk;exact kk
theorem JJ:OKQ T.X56 P w base 3 spSteps:=by
 refine FbO T.X56 fY fun Kz A outer s H vs Q E hr h=> ?_;obtain⟨d,v,ps,sd,rfl,hv,hB,hs,kk⟩:=h;refine⟨_,(aj (pSA (i:=3) fY.nd (pcq (JI T) hr T.X55 (ab (pv 1) (ab (pv 2) af))))
  (aj (aU (aM xN (pv 3) p7 (aF _)) (ai (ao (aN af))) aS)
  (aj (pSA (i:=4) fY.nd (aw eR (pv 1) (ah aK (pv 3) ag) (fun _ _=>rfl)))
  (aj (pSA (i:=5) fY.nd (aw eR (pv 1) (pv 3) (fun _ _=>rfl)))
  (aj (pSA (i:=6) fY.nd (aw eR (pv 1) (ah aC (pv 3) ag) (fun _ _=>rfl)))
  (aj (pSA (i:=7) fY.nd (aN (ab (aZ (ab (aZ (ab (pv 4) (ab (pv 5) (ab (pv 6) af)))) (ab (ah dE (dA eP (pv 1) dU (dh (pv 3))) (dA eP (pv 1) (dh (ah aC (pv 3) ag)) dU)) af))) af)))
  (aj (pSA (i:=8) fY.nd (aZ (ab (ah aK (ah aC (aw aG (pv 4) ag (fun _ _=>rfl)) (aw aG (pv 6) ag (fun _ _=>rfl))) (aw aG (pv 5) ag (fun _ _=>rfl))) (ab (ah aK (ah aC (aw aG (pv 4) ag (fun _ _=>rfl)) (aw aG (pv 6) ag (fun _ _=>rfl))) (aw aG (pv 5) ag (fun _ _=>rfl))) af))))
  (aj (aU (dQ (pcq (JH T) hr T.X51 (ab (pv 0) (ab (pv 8) af)))) (ai (aT (bQ Aa Ax Aw cU (pv 7) (ab (aZ (ab (aZ (ab (pv 4) (ab (pv 5) (ab (pv 6) (ab (pv 8) af))))) (ab (ah dE (ah dE (dA eP (pv 1) dU (dh (pv 3))) (aN (ab (pv 8) af))) (dA eP (pv 1) (dh (ah aC (pv 3) ag)) dU)) af))) af)))) aS)
  (ai (ao (pv 7))))))))))), ?_⟩
 obtain⟨p1,p2⟩:=vb hB;refine⟨_,rfl,_,rfl,v,ps,sd,rfl,hv,hB,hs, ?_⟩;unfold bB at kk;cases hT:bA ps sd with
 |none=>
  rw[hT] at kk;exact⟨_,rfl,rfl,_,rfl,dC ⟨AQ _,fun l H1 n1 s1 h1=>kk l H1 s1 n1 (aD (by rw[bV n1];exact h1) ap)⟩⟩
 |some p=>
  rw[hT] at kk;dsimp only at kk;obtain⟨t1,t2⟩:=jf hT;refine⟨_,rfl,rfl,_,rfl,bn ?_⟩;show _;have a0:=fj (ps:=ps) (j:=p-1) (by lia);have a1:=fj (ps:=ps) (j:=p) (by lia);have a2:=fj (ps:=ps) (j:=p+1) (by lia);refine⟨_,rfl,_,rfl,_,_,rfl,rfl,_,_,_,hv,rfl,by rw[show((p:Int)-1)=((p-1:Nat):Int) by lia];exact a0,fun ua ha=> ?_⟩;refine⟨_,rfl,_,rfl,_,_,_,hv,rfl,a1,fun ub hb=> ?_⟩;refine⟨_,rfl,_,rfl,_,_,rfl,rfl,_,_,_,hv,rfl,by rw[show((p:Int)+1)=((p+1:Nat):Int) by lia];exact a2,fun uc hc=> ?_⟩;generalize ps.getD (p-1) zP=pa at kk ha;generalize ps.getD p zP=pb at kk hb;generalize ps.getD (p+1) zP=pc at kk hc;obtain⟨da,Ki,rfl,Kp,Kx⟩:=aB hv;have KC:Ki.length=ps.length:=by rw[Kx.length,A1]
  refine⟨_,rfl,_,rfl,_,rfl,(zB rfl),fun t1' H1 n1 s1 h1=> ?_⟩;refine⟨_,rfl,_,rfl,(p:Int),rfl,da,_,rfl,SqL.of (s1 _ _ Kp), ?_⟩;rw[pi];intro l2 n2;have s2:ae H1 (upd H1 l2 (.lst (Ki.take p))):=ae.new n2;have h2:(upd H1 l2 (.lst (Ki.take p))) l2=some (.lst (Ki.take p)):=ak;generalize upd H1 l2 (.lst (Ki.take p))=H2 at s2 h2⊢;refine⟨_,rfl,_,rfl,_,_,rfl,rfl,(p:Int)+1,rfl,da,_,rfl,SqL.of (s2 _ _ (s1 _ _ Kp)), ?_⟩;rw[show((p:Int)+1)=((p+1:Nat):Int) by lia,jg (by lia)];intro l3 n3;have s3:ae H2 (upd H2 l3 (.lst (Ki.drop (p+1)))):=ae.new n3;have h3:(upd H2 l3 (.lst (Ki.drop (p+1)))) l3=some (.lst (Ki.drop (p+1))):=ak;generalize upd H2 l3 (.lst (Ki.drop (p+1)))=H3 at s3 h3⊢;have KH:ae H H3:=(s1.trans s2).trans s3;have i2:Is H3 (pts (ps.take p)) (.ref l2):=aD (s3 _ _ h2) (by rw[List.map_take];exact(Kx.take p).mono KH);have i3:Is H3 (pts (ps.drop (p+1))) (.ref l3):=aD h3 (by rw[D9];exact(Kx.drop (p+1)).mono KH);refine⟨_,_,i2,i3,Ae (aA (by rw[A1,A1,Ac,Bk];lia)),fun q4 H4 n4 s4 h4=>⟨(zB rfl),fun t5 H5 n5 s5 h5=>⟨(zB rfl),fun fo H6 n6 s6 h6=> ?_⟩⟩⟩;rw[<-A5] at h4;have OV:ae H H6:=((KH.trans s4).trans s5).trans s6;have Lv:H fo=none:=((KH.trans s4).trans s5).free n6;have LG:ae H H5:=(KH.trans s4).trans s5;have is1:Is (nw H H5) (ij ([pa,pb,pc],ps.take p++ps.drop (p+1))) (.ref t5):=by
   refine bw (by rw[bV ((KH.trans s4).free n5)];exact h5) (am ?_ (am (va LG (KH.free n4) (Is.mono (s:=s5) h4)) ap));exact u9 (je LG) (bw (s5 _ _ (s4 _ _ (s3 _ _ (s2 _ _ h1)))) (am (ha.mono LG) (am (hb.mono LG) (am (hc.mono LG) ap))))
  refine⟨_,rfl,_,0,_,ha.mono OV,rfl,rfl,fun u hu=> ?_⟩;rw[az hu];refine⟨_,rfl,_,0,_,hc.mono OV,rfl,rfl,fun u hu=> ?_⟩;rw[az hu];refine⟨_,_,rfl,rfl,_,rfl,_,0,_,hb.mono OV,rfl,rfl,fun u hu=> ?_⟩;rw[az hu];refine⟨_,_,rfl,rfl,_,rfl,_,1,_,ha.mono OV,rfl,rfl,fun u hu=> ?_⟩;rw[az hu];refine⟨_,rfl,_,1,_,hc.mono OV,rfl,rfl,fun u hu=> ?_⟩;rw[az hu];refine⟨_,_,rfl,rfl,_,rfl,_,1,_,hb.mono OV,rfl,rfl,fun u hu=> ?_⟩;rw[az hu];refine⟨_,_,rfl,rfl,(zB rfl),fun t7 H7 n7 s7 h7=> ?_⟩;have hf:Is H7 (pt (aR pa pb pc)) (.ref t7):=fS h7;have OO:=OV.trans s7;refine⟨_,rfl,_,rfl,d,_,_,rfl,hf,br d (aR pa pb pc),rfl, ?_⟩;cases hP:br d (aR pa pb pc) with
  |false=>
   rw[hP] at kk;refine bn ⟨_,rfl,kk fo H7 OO Lv ?_⟩;exact aD (by rw[bV Lv];exact s7 _ _ h6) (am (is1.mono (eA (s6.trans s7))) ap)
  |true=>
   rw[hP] at kk;refine dC ⟨_,rfl, .inl ⟨rfl,_,SqL.of (s7 _ _ h6)⟩,_,rfl,_,rfl,_,rfl,_,rfl,(zB rfl),fun t8 H8 n8 s8 h8=> ?_⟩;have s08:=OO.trans s8;refine⟨_,rfl,_,rfl,(p:Int),rfl,da,_,rfl,SqL.of (s08 _ _ Kp), ?_⟩;rw[pi];intro l9 n9;have s9:ae H8 (upd H8 l9 (.lst (Ki.take p))):=ae.new n9;have h9:(upd H8 l9 (.lst (Ki.take p))) l9=some (.lst (Ki.take p)):=ak;generalize upd H8 l9 (.lst (Ki.take p))=H9 at s9 h9⊢;have s09:=s08.trans s9;refine⟨_,rfl,(zB rfl),fun la Ha na sa hla=> ?_⟩;have s0a:=s09.trans sa;refine⟨_,[pt (aR pa pb pc)],aD (sa _ _ h9) (by rw[List.map_take];exact(Kx.take p).mono s0a:Iss Ha ((ps.take p).map pt) (Ki.take p)),aD hla (am (((hf.mono s8).mono s9).mono sa) ap),Ae (aA (by rw[A1,Ac];show _+1<=1000;lia)),fun lb Hb nb sb hlb=> ?_⟩;have s0b:=s0a.trans sb;refine⟨_,rfl,_,rfl,_,_,rfl,rfl,(p:Int)+1,rfl,da,_,rfl,SqL.of (s0b _ _ Kp), ?_⟩;rw[show((p:Int)+1)=((p+1:Nat):Int) by lia,jg (by lia)];intro lc nc;have sc:ae Hb (upd Hb lc (.lst (Ki.drop (p+1)))):=ae.new nc;have hlc:(upd Hb lc (.lst (Ki.drop (p+1)))) lc=some (.lst (Ki.drop (p+1))):=ak;generalize upd Hb lc (.lst (Ki.drop (p+1)))=Hc at sc hlc⊢;have s0c:=s0b.trans sc;refine⟨_,_,hlb.mono sc,aD hlc (by rw[D9];exact(Kx.drop (p+1)).mono s0c:Iss Hc ((ps.drop (p+1)).map pt) (Ki.drop (p+1))),Ae (aA (by rw[A',A1,A1,Ac,Bk];show _+1+_<=1000;lia)),fun ld Hd nd sd' hld=>⟨(zB rfl),fun te He ne se he=> ?_⟩⟩;have s0d:=s0c.trans sd';have s0e:=s0d.trans se;have s8e:ae H8 He:=((((s9.trans sa).trans sb).trans sc).trans sd').trans se;have s7e:=s8.trans s8e;refine⟨fo,_,_,rfl,rfl,s7e _ _ (s7 _ _ h6),aA (by show 1<=1000;decide), ?_⟩;have hld':Is Hd (pts (ps.take p++[aR pa pb pc]++ps.drop (p+1))) (.ref ld):=by
    have:=hld;show Is Hd (.l ((ps.take p++[aR pa pb pc]++ps.drop (p+1)).map pt)) (.ref ld);rw[A5,A5];exact this
   have is2:Is (nw H7 He) (ij ([pa,pb,pc,aR pa pb pc],ps.take p++[aR pa pb pc]++ps.drop (p+1))) (.ref te):=by
    have s7d:ae H7 Hd:=((((s8.trans s9).trans sa).trans sb).trans sc).trans sd';have s7c:ae H7 Hc:=(((s8.trans s9).trans sa).trans sb).trans sc;refine bw (by rw[bV (s7d.free ne)];exact he) (am ?_ (am (va s7e (s7c.free nd) (hld'.mono se)) ap));exact u9 (je s7e) (bw (s8e _ _ h8) (am (ha.mono s0e) (am (hb.mono s0e) (am (hc.mono s0e) (am (hf.mono s7e) ap)))))
   have acc:=Acc.add (xs:=[ij ([pa,pb,pc],ps.take p++ps.drop (p+1))]) OO s7e (s7 _ _ h6) (am (is1.mono (Hh n6 (s6.trans s7))) ap) is2;exact⟨_,rfl,kk fo _ (s0e.put Lv) Lv (acc.is Lv)⟩
theorem JK:OKQ T.X57 P w base 2 spPw:=by
 refine FbO T.X57 Gm fun _ _ _ _ H vs Q E hr h=> ?_;obtain⟨v,c,rfl,hv,hB,hl,kk⟩:=h;refine⟨_,(aj (aU (aM cn (bi lG (by rfl) T.n_len boot_len (ab (pv 0) af)) ag (aF _)) (ai (ao (bi qx (by rfl) T.n_abs boot_abs (ab (pcq (wJ T) hr T.X52 (ab (aw aG (pv 0) ag (fun _ _=>rfl)) (ab (aw aG (pv 0) ag (fun _ _=>rfl)) (ab (aw aG (pv 0) ag (fun _ _=>rfl)) af)))) af)))) aS)
  (ai (ao ag))), ?_⟩
 unfold pwF at kk;refine⟨_,rfl,_,_,rfl, .inr hv,rfl,_,rfl,cM (fun e=> ?_) (fun e=> ?_)⟩
 .rw [A1] at e;have e3:c.length=3:=by lia
  rw[A8 e3] at kk;have a0:=fj (ps:=c) (j:=0) (by lia);have a1:=fj (ps:=c) (j:=1) (by lia);have a2:=fj (ps:=c) (j:=2) (by lia);refine⟨_,rfl,_,0,_,hv,rfl,a0,fun u0 h0=>⟨_,rfl,_,1,_,hv,rfl,a1,fun u1 h1=>⟨_,rfl,_,2,_,hv,rfl,a2,fun u2 h2=> ?_⟩⟩⟩;exact⟨u0,u1,u2,_,_,_,rfl,h0,h1,h2,hB _ (dM (by lia)),hB _ (dM (by lia)),hB _ (dM (by lia)),_,rfl,kk⟩
 .rw [A1] at e;rw[A6 (by lia)] at kk;exact kk
theorem pU:∀n:Nat,FnOk P w K mg base CX0 (n+4) T.f60 T.d60 ["d","way","side","known"] (spWoG P w n)
 |0=>⟨fun vs H Q E h=>(by obtain⟨_,_,_,_,_,_,_,_,_,_,SD,_,d4,_,ok,h,_⟩:=h;have:=(SD.lo _ ok).1;lia),fun A outer s H args us vs Q E _ _ _ _ h=>(by obtain⟨_,_,_,_,_,_,_,_,_,_,SD,_,d4,_,ok,h,_⟩:=h;have:=(SD.lo _ ok).1;lia)⟩
 |n+1=>by
  have ih:=pU n;refine T.X60.F.ok gW (fun vs H Q E h=> ?_) (fun Kz A outer s H vs Q E hr h=> ?_)
  .obtain⟨_,_,_,_,_,_,_,_,_,rfl,_⟩:=h;rfl
  .obtain⟨d,v,kn,ps,R,sg,e0,Wq,mu,rfl,SD,d1,d4,hv,ok,hn,hD,hK,kk⟩:=h;refine⟨_,(aj (pSA (i:=4) gW.nd (gu iJ (by rfl) T.n_tuple boot_tuple (ab (pv 1) af)))
   (aj (aU (kY (Fh (fx hr) (pv 4) (pv 3)) rfl) (aj (pSA (i:=5) gW.nd ag)
   (aj (aL AO rfl (aY (pcq (JJ T) hr T.X56 (ab (pv 0) (ab (pv 1) (ab (pv 2) af))) (by lia))) (cA rfl (aO (pGA (i:=6) gW.nd) (aO (pGA (i:=7) gW.nd) b0))) (ai (fK (i:=5) gW.nd rfl (by trivial) (ah bC (pcq (JK T) hr T.X57 (ab (pv 6) af) (by lia)) (dS ih hr (by rfl) T.X60.m T.X60.F.kp T.X60.B .nil dW (ab (pv 0) (ab (pv 7) (ab (pv 2) (ab (pv 3) af)))))) iu)))
   (ai (Fi (fx hr) (pv 3) (pv 4) (pv 5) rfl)))) aS)
   (ai (ao (Ff (fx hr) (pv 3) (pv 4) (fun _ _=>rfl)))))), ?_⟩
   refine⟨_,rfl,_,_,rfl,hv,fun key H1 nk s1 hk=> ?_⟩;have hk1:Is H1 (nK (wk ps)) (.ref key):=pN hk;have hD1:=hD.mono s1;have b1:But kn H H1:=But.of_same s1;refine⟨_,rfl,_,rfl,kn,tK R,wk ps,rfl,hD1,hk1,_,rfl, ?_⟩;rw[gg];by_cases MD:wk ps∈R.map (·.1)
   .rw [A8 MD];refine bn ⟨_,rfl,_,rfl,kn,tK R,wk ps, .int (Wq ps),rfl,hD1,hk1,by rw[gg,A8 MD,hK.get MD],kk R H1 b1 hD1 hK⟩
   .rw [A6 MD];refine dC ?_;refine⟨_,rfl,_,rfl,_,rfl,d,v,ps,sg,rfl,hv.mono s1,Hs d4 ok,SD.sd,fun l0 H2 s2 NJ Mj=> ?_⟩;have hS:∀x∈bB d ps sg,aH d x.2/\mu x.2+1<=mu ps/\(∀p∈x.1,inB p=true)/\(x.1.length=3\/x.1.length=4):=fun x hx=>⟨(SD.st ps x ok hx).1,(SD.st ps x ok hx).2,IU d4 ok hx⟩;have Kt:ps≠e0:=fun e=>MD (by rw[e];exact hK.2.2);have hW:Wq ps=((bB d ps sg).map fun x=>pwF x.1*Wq x.2).sum:=by rw[SD.eq _ ok,A6 Kt]
    generalize bB d ps sg=S at hS hW Mj;obtain⟨_,KI,e,OP,OQ⟩:=aB Mj;cases e;have K0:H2 l0=some (.lst KI):=bE _ _ OP;have Mf:Iss H2 (S.map ij) KI:=OQ.mono bE;have LH:KI.length=S.length:=by rw[Mf.length,A1]
    have OR:=hD1.mono s2;have OS:l0≠kn:=by
     obtain⟨_,_,xs,_,e⟩:=hD1;rintro rfl;rw[e] at NJ;cases NJ
    refine⟨l0,rfl,⟨_,SqL.of K0⟩,bP (xs:=KI) (fun i σ H3=>(∃v6 v7,σ=[some (.int d),some v,some (.int sg),some (.ref kn),some (.ref key),some (.int (((S.take i).map fun x=>pwF x.1*Wq x.2).sum)),v6,v7])/\But kn H2 H3/\∃R',DN P w H3 kn (tK R')/\KnG d e0 Wq R') ⟨⟨none,none,rfl⟩,But.of_same (ae.refl _),R,OR,hK⟩ (fun i σ H3 _ h=>SqL.of (h.2.1 _ _ K0 OS)) ?_ ?_⟩
    .rintro i y σ H3 hi ⟨⟨v6,v7,rfl⟩,KY,R3,Mt,MH⟩;obtain⟨x,Ku,hy⟩:=bd Mf hi;obtain⟨x1,x2,x3,x4⟩:=hS x (AV Ku);have hx3:Is H3 (ij x) y:=hy.lts (jm OR KY);obtain⟨t,tvs,rfl,ht,L6⟩:=bH hx3;obtain⟨u1,us,rfl,KR,L6⟩:=aQ L6;obtain⟨u2,us,rfl,Lj,L6⟩:=aQ L6;rw[bp L6] at ht;refine⟨t,_,rfl,SqT.of ht,rfl,_,_,rfl,_,_,rfl,rfl, ?_⟩;refine⟨_,rfl,_,rfl,u1,x.1,rfl,KR,x3,x4,_,rfl,_,rfl,_,rfl,_,rfl,d,u2,kn,x.2,R3,sg,e0,Wq,mu,rfl,SD,d1,d4,Lj,x1,by lia,Mt,MH,fun R4 H4 KP M9 hK4=> ?_⟩;refine⟨_,_,rfl,rfl, .inl (IW x3 x4),_,_,rfl,rfl,⟨some u1,some u2, ?_⟩,KY.trans KP,R4,M9,hK4⟩;rw[AN,Ku,A5,CD];simp
    .rintro σ H3 ⟨⟨v6,v7,rfl⟩,KY,R3,Mt,MH⟩;rw[LH,AR,<-hW];have M':But kn H H3:=(But.of_same (s1.trans s2)).trans KY;have Oo:Is H3 (nK (wk ps)) (.ref key):=(hk1.mono s2).lts (jm OR KY);have LK:=MH.len d4;refine⟨_,rfl,_,rfl,_,rfl,kn,tK R3,wk ps,rfl,Mt,Oo,by rw[vk,Av];lia,fun H4 M9 k4=> ?_⟩;rw[oU MH.1] at M9;have KP:But kn H3 H4:=fun c o e n=>by rw[k4 c n];exact e
     have hk4:=Oo.lts (jm Mt KP);obtain⟨g1,g2⟩:=pE (k:=wk ps) (v:=Wq ps) (R:=R3);exact⟨_,rfl,_,rfl,kn,_,wk ps, .int (Wq ps),rfl,M9,hk4,by rw[gg,A8 g2,g1],kk _ H4 (M'.trans KP) M9 (MH.put ok)⟩
theorem JL:FnOk P w K mg base (CX0) 5 T.f61 T.d61 ["d"] (spKnG P w upE wW):=by
 refine FbO T.X61 Gn fun _ _ _ _ H vs Q E hr h=> ?_;obtain⟨d,rfl,d1,d4,kk⟩:=h;refine⟨_,(ai (ao (tW (fx hr) (gu iJ (by rfl) T.n_tuple boot_tuple (ab (pcq (JE T) hr T.X53 (ab (pv 0) af)) af)) ag))), ?_⟩;refine fun kn H0 N8 hD0 k0=> ?_;refine⟨_,rfl,d,rfl,d1,by lia,fun l H1 s1 nl hl=> ?_⟩;obtain⟨m,rfl⟩:∃m,m=d:=⟨d,rfl⟩;refine⟨_,_,rfl,hl,fun key H2 nk s2 hk=>⟨(hD0.mono s1).mono s2,wk (upE m),pN hk,fun H3 Mt k3=> ?_⟩⟩;have hup:=(oV d4).1;have w1:wW m (upE m)=1:=by rw[vj d4 hup,A8 rfl]
 refine kk kn [(wk (upE m),1)] H3 (fun b o e=> ?_) N8 Mt ⟨by simp,fun x hx=> ?_,by simp⟩
 .have bk:b≠kn:=by rintro rfl;rw[N8] at e;cases e
  rw[k3 b bk];exact s2 _ _ (s1 _ _ (by rw[k0 b bk];exact e))
 .rw [AY.mp hx];exact⟨upE m,hup,by rw[w1]⟩
theorem JM:FnOk P w K mg base (CX0) 5 T.f62 T.d62 ["d"] (spKnG P w loE vW):=by
 refine FbO T.X62 Go fun _ _ _ _ H vs Q E hr h=> ?_;obtain⟨d,rfl,d1,d4,kk⟩:=h;refine⟨_,(ai (ao (tW (fx hr) (gu iJ (by rfl) T.n_tuple boot_tuple (ab (pcq (JF T) hr T.X54 (ab (pv 0) af)) af)) ag))), ?_⟩;refine fun kn H0 N8 hD0 k0=> ?_;refine⟨_,rfl,d,rfl,d1,by lia,fun l H1 s1 nl hl=> ?_⟩;obtain⟨m,rfl⟩:∃m,m=d:=⟨d,rfl⟩;refine⟨_,_,rfl,hl,fun key H2 nk s2 hk=>⟨(hD0.mono s1).mono s2,wk (loE m),pN hk,fun H3 Mt k3=> ?_⟩⟩;have hup:=(oW d4).1;have w1:vW m (loE m)=1:=by rw[vt d4 hup,A8 rfl]
 refine kk kn [(wk (loE m),1)] H3 (fun b o e=> ?_) N8 Mt ⟨by simp,fun x hx=> ?_,by simp⟩
 .have bk:b≠kn:=by rintro rfl;rw[N8] at e;cases e
  rw[k3 b bk];exact s2 _ _ (s1 _ _ (by rw[k0 b bk];exact e))
 .rw [AY.mp hx];exact⟨loE m,hup,by rw[w1]⟩
theorem wK (h:1<=rs.length):b8 rs (some 1) none=rs.drop 1:=by
 unfold b8;rw[show(1:Int)=((1:Nat):Int) from rfl,HT.sIx_nat,HT.sIx_none,Nat.min_eq_left h,Ct (by simp)]
theorem wL:∀n:Nat,OKQ T.X58 P w base n (spLv n K)
 |0=>⟨fun vs H Q E h=>by obtain⟨_,_,_,_,_,h,_⟩:=h;lia,fun A outer s H args us vs Q E _ _ _ _ h=>by obtain⟨_,_,_,_,_,h,_⟩:=h;lia⟩
 |n+1=>by
  have ih:=wL n;refine T.X58.F.ok uk (fun vs H Q E h=> ?_) (fun Kz A outer s H vs Q E hr h=> ?_)
  .obtain⟨_,_,_,rfl,_⟩:=h;rfl
  .obtain⟨a,rs,k,rfl,hS,hn,hL,kk⟩:=h;refine⟨_,(aj (aU (aM dR (pv 1) (bi jD (by rfl) T.n_len boot_len (ab (pv 0) af)) (aF _)) (ai (ao (jz af))) aS)
   (aj (aU (aM cn (pv 1) ag (aF _)) (ai (ao (jz (ab (gu yn (by rfl) T.n_list boot_list (ab (pv 0) af)) af)))) aS)
   (aj (iG (i:=2) uk.nd rfl (by trivial) (.inl rfl) (XN:=["row","k","with_first"]) (sc:=al kj) (N:=["rest","row"]) (own:=1) (js:=[0]) rfl (by ac_nf) rfl rfl (aY (dS ih hr (by rfl) T.X58.m T.X58.F.kp T.X58.B .nil dW (ab (dA eP (pv 0) (dh ag) dU) (ab (pv 1) af)))) (fun _ _ _ _=>(bm (i:=0) (show List.Nodup (["rest","row"]:O4 Str) by ac_nf) rfl (Or.inl rfl) (.inr rfl))) (cg (by decide)) (fun _ _ _ _=>cp) (fun _ _ _ _=>(ah jE (jz (ab (aw (y6 (K:=K) rfl) (pv 1) ag (fun _ _=>rfl)) af)) (pv 0))))
   (ai (ao (ah jE (pv 2) (dS ih hr (by rfl) T.X58.m T.X58.F.kp T.X58.B .nil dW (ab (dA eP (pv 0) (dh ag) dU) (ab (ah aK (pv 1) ag) af))))))))), ?_⟩
   refine⟨_,rfl,_,rfl,a,_,rfl, .inl hS,_,_,rfl,rfl,_,rfl,aX (fun hk=> ?_) (fun hk=> ?_)⟩
   .refine⟨AQ _,fun l nl=> ?_⟩;exact kk l [] _ (ae.new nl) nl ak (by rw[oK rs k (by lia)];exact bX.nil)
   refine⟨_,rfl,rfl,_,rfl,cM (fun hz=> ?_) (fun hz=> ?_)⟩
   .refine⟨_,rfl,a,_,rfl, .inl hS,fun b nb=> ?_⟩;have sb:ae H (upd H b (.lst rs)):=ae.new nb;refine⟨(zB rfl),fun l nl=> ?_⟩;refine kk l [.ref b] _ (sb.put (sb.free nl)) (sb.free nl) ak ?_;have ez:k=0:=by lia
    have e0:lvA rs k=[rs]:=by rw[ez];cases rs<;>rfl
    rw[e0];exact bX.one nb (by rw[ax (bG ak nl)];exact ak)
   obtain⟨x,rs,rfl⟩:∃x rs',rs=x::rs':=by
    cases rs with
    |nil=>simp at hk;lia
    |cons x rs=>exact⟨x,rs,rfl⟩
   obtain⟨k,rfl⟩:∃k',k=k'+1:=⟨k-1,by lia⟩;simp only[Ad] at hn hL;refine⟨_,rfl,1,rfl,a,_,rfl,hS, ?_⟩;rw[wK (by simp)];intro b nb;have sb:ae H (upd H b (.lst ((x::rs).drop 1))):=ae.new nb;refine⟨_,rfl,b,rs,k+1,rfl,SqL.of ak,by lia,by lia,fun l1 us H1 s1 nl1 LD L1=> ?_⟩;have sA:=sb.trans s1;have nl1H:H l1=none:=sb.free nl1;have L1:=L1.mono sb (ae.refl _);clear s1 nl1;refine⟨l1,rfl,⟨_,SqL.of LD⟩,fun acc na=> ?_⟩;refine dk (xs:=us) (own:=1) (js:=[0]) (fun i H2=>ae H1 H2/\∃vs,H2 acc=some (.lst vs)/\bX (upd H acc (.lst [])) H2 (((lvA rs (k+1)).take i).map (x:: ·)) vs) ⟨ae.new na,[],ak,by simpa using bX.nil⟩ (fun i H2 _ h=>h.1.seq (SqL.of LD)) ?_ ?_ ci cr ?_
   .rintro i v H2 hi ⟨s2,vs,Kc,L2⟩;have hiu:i<us.length:=(AD.mp hi).1;have hiw:i<(lvA rs (k+1)).length:=by rw[<-L1.1];exact hiu
    obtain⟨a1,e1,_,e3⟩:=L1.2 i _ (A2 hiw);rw[hi] at e1;cases e1;have hw:=kI rs (k+1) _ (D6 hiw);have hl:=jd rs (k+1);have hp:2^rs.length<=2^20:=Bw (by decide) (by lia);have KI:vs.length<=i:=by rw[L2.1,A1,Ac];lia
    refine dm ?_;refine⟨_,rfl,a,_,_,x,rfl,rfl,(sA.trans s2).seq hS,jB (j:=0) rfl,(zB rfl),fun c nc=> ?_⟩;have sc:ae H2 (upd H2 c (.lst [x])):=ae.new nc;refine⟨_,rfl,c,a1,_,_,rfl,rfl,ak,sc _ _ (s2 _ _ e3),by rw[Av];simp;lia,fun d nd=> ?_⟩;have sd:ae (upd H2 c (.lst [x])) (upd (upd H2 c (.lst [x])) d (.lst ([x]++(lvA rs (k+1))[i]))):=ae.new nd;have hacc2:=sd _ _ (sc _ _ Kc);have ndH:H d=none:=(sA.trans s2).free (sc.free nd);have had:d≠acc:=(bG (sc _ _ Kc) nd).symm;refine⟨acc,_,_,rfl,rfl,hacc2,by rw[Av];lia,((s2.trans sc).trans sd).put na,_,ak, ?_⟩;rw[AN,A2 hiw,A5];refine bX.append ?_ (bX.one (by rw[ax had];exact ndH) (by rw[ax had,ak];rfl));refine⟨L2.1,fun j ws e=> ?_⟩;obtain⟨a3,f1,f2,f3⟩:=L2.2 j ws e;refine⟨a3,f1,f2, ?_⟩;have:a3≠acc:=fun z=>by
     rw[z,ak] at f2;cases f2
    rw[ax this];exact sd _ _ (sc _ _ f3)
   .rintro H2 ⟨s2,vs,Kc,L2⟩;rw[L1.1,AR] at L2;have sB:=sA.trans s2;refine⟨_,rfl,_,rfl,1,rfl,a,_,rfl,sB.seq hS, ?_⟩;rw[wK (by simp)];intro b2 nb2;have NZ:ae H2 (upd H2 b2 (.lst ((x::rs).drop 1))):=ae.new nb2;refine⟨_,rfl,_,_,rfl,rfl, ?_⟩;refine⟨b2,rs,k,by show [V.ref b2,V.int (((k+1:Nat):Int)-1)]=_;rw[show(((k+1:Nat):Int))-1=(k:Int) by lia],SqL.of ak,by lia,by lia,fun l2 us2 H3 s3 nl2 K0 L3=> ?_⟩;have sC:=NZ.trans s3;have hl1':=jd rs (k+1);have hl2':=jd rs k;have hp:2^rs.length<=2^20:=Bw (by decide) (by lia);refine⟨acc,l2,vs,us2,rfl,rfl,sC _ _ Kc,K0,by rw[Av,L2.1,L3.1,A1];lia,fun q nq=> ?_⟩;have sq:ae H3 (upd H3 q (.lst (vs++us2))):=ae.new nq;refine kk q _ _ ((sB.trans sC).trans sq) ((sB.trans sC).free nq) ak ?_;rw[lvA];exact bX.append (L2.mono (ae.new (sA.free na)) (sC.trans sq)) (L3.mono (sB.trans NZ) sq)
   .rintro σ H R R' k' ⟨v1,e1,p1,x1,i1,y1,e2,e3,e4,e5,z,hq⟩;refine⟨v1,e1,p1,x1,i1,y1,e2,e3,e4,e5,z,fun c nc=> ?_⟩;obtain⟨v2,f1,l,b,xs,zs,f2,f3,f4,f5,f6,hq⟩:=hq c nc;exact⟨v2,f1,l,b,xs,zs,f2,f3,f4,f5,f6,fun d nd=>k' _ _ (hq d nd)⟩
theorem JN (h:2<=rs.length):b8 rs (some 1) (some (-1))=(rs.drop 1).dropLast:=by
 have e1:HT.sIx rs.length 0 (some 1)=1:=by
  show(if(1:Int)<0 then((1:Int)+(rs.length:Int)).toNat else min (1:Int).toNat rs.length)=1;rw[A6 (by decide)];show min 1 rs.length=1;lia
 have e2:HT.sIx rs.length rs.length (some (-1))=rs.length-1:=by
  show(if(-1:Int)<0 then((-1:Int)+(rs.length:Int)).toNat else min (-1:Int).toNat rs.length)=rs.length-1;rw[A8 (by decide)];lia
 unfold b8;rw[e1,e2,List.dropLast_eq_take,Bk]
theorem wM {H:Hp}{acc:OZ}{zs:O4 V} (ha:H acc=some (.lst zs)):∀{ps:O4 Pt}{vs:O4 V},Iss H (ps.map pt) vs->Iss (hid H acc) (ps.map pt) vs
 |[],_,h=>by rw[bp h];exact ap
 |p::ps,_,h=>by
  obtain⟨u,us,rfl,h1,h2⟩:=aQ h;obtain⟨a,rfl,hp⟩:=jJ h1;exact am (fS (by rw[dX (by rintro rfl;rw[ha] at hp;cases hp)];exact hp)) (wM ha h2)
theorem JO {c:OZ}{zs:O4 V}(ha:H acc=some (.lst zs)) (ne:c≠acc) (h:Is H (pts ps) (.ref c)):Is (hid H acc) (pts ps) (.ref c):=by
 obtain⟨_,ws,e,hc,r⟩:=iH h;cases e;exact aD (by rw[dX ne];exact hc) (wM ha r)
def im (H:Hp) (Wq:O4 (O4 Pt)) (Z:O4 (O4 V)):Prop:=Wq.length=Z.length/\∀(i:Nat) w,Wq[i]? =some w->∃z,Z[i]? =some z/\Iss H (w.map pt) z
theorem im.app {Wq W':O4 (O4 Pt)}{Z Z':O4 (O4 V)} (h:im H Wq Z) (k:im H W' Z'):im H (Wq++W') (Z++Z'):=by
 refine⟨by rw[A',A',h.1,k.1],fun i w e=> ?_⟩;rcases C4 i Wq.length with q|q
 .rw [Bp q] at e;rw[Bp (by rw[<-h.1];exact q)];exact h.2 i w e
 .rw [BS q] at e;rw[BS (by rw[<-h.1];exact q),<-h.1];exact k.2 _ w e
theorem kU {H:Hp}:∀(row:O4 Pt) (rs:O4 V) (k:Nat),Iss H (row.map pt) rs->im H (lvA row k) (lvA rs k)
 |row,rs,0,h=>by
  have e1:∀{α:Type} (l:O4 α),lvA l 0=[l]:=fun l=>by cases l<;>rfl
  rw[e1,e1];refine⟨rfl,fun i w e=> ?_⟩
  match i,e with
  |0,e=>cases e;exact⟨rs,rfl,h⟩
  |i+1,e=>simp at e
 |[],rs,k+1,h=>by
  rw[bp h];exact⟨rfl,fun i w e=>by simp[lvA] at e⟩
 |p::row,rs,k+1,h=>by
  obtain⟨u,us,rfl,h1,h2⟩:=aQ h;rw[lvA,lvA];refine im.app ?_ (kU row us k h2);obtain⟨l,g⟩:=kU row us (k+1) h2;refine⟨by rw[A1,A1,l],fun i w e=> ?_⟩;rw[AF] at e;obtain⟨w',hw',rfl⟩:=AC.mp e;obtain⟨z,hz,hi⟩:=g i w' hw';exact⟨u::z,by rw[AF,hz];rfl,am h1 hi⟩
def JP {row:O4 Pt}(h:Iss H (row.map pt) rs) (i:Nat) (w:O4 Pt) (e:(lvA row k)[i]? =some w):∃ws,(lvA rs k)[i]? =some ws/\Iss H (w.map pt) ws:=(kU row rs k h).2 i w e
def JQ {row:O4 Pt}(h:Iss H (row.map pt) rs):(lvA rs k).length=(lvA row k).length:=(kU row rs k h).1.symm
theorem JR (h1:1<=d) (h4:d<=4):(bo d)[0]? =some (p0 d):=by
 have:d=1\/d=2\/d=3\/d=4:=by lia
 rcases this with rfl|rfl|rfl|rfl<;>ac_nf
theorem JS (h1:1<=d) (h4:d<=4):atI ((bo d).map pt) (-1)=some (pt (pl d)):=by
 have e:(bo d)[(bo d).length-1]? =some (pl d)/\1<=(bo d).length:=by
  have:d=1\/d=2\/d=3\/d=4:=by lia
  rcases this with rfl|rfl|rfl|rfl<;>ac_nf
 unfold atI ixN;rw[A1,A6 (by decide),A8 (by lia)];show((bo d).map pt)[((-1:Int)+((bo d).length:Int)).toNat]? =some (pt (pl d));rw[show((-1:Int)+((bo d).length:Int)).toNat=(bo d).length-1 by lia,AF,e.1];rfl
theorem JT:OKQ T.X59 P w base 22 spWayP:=by
 refine FbO T.X59 um fun _ _ _ _ H vs Q E hr h=> ?_;obtain⟨n,k,rfl,hN,⟨h64,hsw⟩,k2⟩:=h;refine⟨_,(aj (aT (pcq (vY T) hr T.X2 (ab (pv 0) (ab (pv 1) af))))
  (aj (pSA (i:=2) um.nd (pcq (JG T) hr T.X50 (ab (pv 0) af)))
  (ai (ao (bi (lZ hr) (by rfl) T.n_sorted boot_sorted (ab (cq (XN:=["d","k","row"]) (sc:=al km) (N:=["between","row"]) (own:=1) (js:=[2]) rfl (by ac_nf) rfl rfl (aY (pcq (wL T 20) hr T.X58 (ab (dA eP (pv 2) (dh ag) (dh (gp gr ag))) (ab (pv 1) af)))) (fun _ _ _ _=>(bm (i:=0) (show List.Nodup (["between","row"]:O4 Str) by ac_nf) rfl (Or.inl rfl) (.inr rfl))) (cg (by decide)) (fun _ _ _ _=>cp) (fun _ _ _ _=>(ah dE (ah dE (aN (ab (aw eR (pv 1) ag (fun _ _=>rfl)) af)) (pv 0)) (aN (ab (aw eR (pv 1) (gp gr ag) (fun _ _=>rfl)) af))))) af)))))), ?_⟩
 have d1:1<=n:=hN.1;have d4:n<=4:=by unfold dy at hN;lia
 refine⟨_,rfl,_,rfl,n,k,rfl,hN, ?_⟩;refine⟨_,rfl,n,rfl,d1,by lia,fun l0 H1 s1 NJ Mj=> ?_⟩;obtain⟨_,rs,e,Ow,his⟩:=iH Mj;cases e;have KG:rs.length=(bo n).length:=by rw[his.length,A1]
 have plen:3<=(bo n).length/\(bo n).length<=15:=by
  have:n=1\/n=2\/n=3\/n=4:=by lia
  rcases this with rfl|rfl|rfl|rfl<;>ac_nf
 refine⟨_,rfl,1,rfl,1,rfl,_,rfl,l0,rs,rfl,SqL.of Ow, ?_⟩;rw[JN (by lia)];intro b nb;have sb:ae H1 (upd H1 b (.lst ((rs.drop 1).dropLast))):=ae.new nb;have mlen:((rs.drop 1).dropLast).length=rs.length-2:=by simp;lia
 refine⟨_,rfl,b,_,k,rfl,SqL.of ak,by lia,by lia,fun l1 us H2 s2 nl1 LD L1=> ?_⟩;have mis:Iss H1 ((c9 n).map pt) ((rs.drop 1).dropLast):=by
  unfold c9;have:=(his.drop 1);rw[<-D9] at this;have t2:=this.take ((rs.drop 1).length-1);rw[<-List.map_take] at t2;rw[List.dropLast_eq_take,List.dropLast_eq_take];rw[Bk] at t2⊢;rw[Bk,<-KG];exact t2
 generalize (rs.drop 1).dropLast=ms at mis mlen sb s2 L1 nl1⊢;have Nj:ae H1 H2:=sb.trans s2;have Lis:∀(i:Nat) (w:O4 Pt),(lvA (c9 n) k)[i]? =some w->∃a ws,us[i]? =some (.ref a)/\H2 a=some (.lst ws)/\Iss H2 (w.map pt) ws:=fun i w hw=>by
  obtain⟨ws,e1,e2⟩:=JP (k:=k) mis i w hw;obtain⟨a,f1,_,f3⟩:=L1.2 i ws e1;exact⟨a,ws,f1,f3,e2.mono Nj⟩
 have ulen:us.length=(lvA (c9 n) k).length:=by rw[L1.1,JQ mis]
 have OW:(bR n k).length=(lvA (c9 n) k).length:=by unfold bR;rw[A1]
 refine⟨l1,rfl,⟨_,SqL.of LD⟩,fun acc na=> ?_⟩;refine dk (xs:=us) (own:=1) (js:=[2]) (fun i H3=>ae H2 H3/\cb H3 acc (((bR n k).take i).map pts)) ⟨ae.new na,cb.start⟩ (fun i H3 _ h=>SqL.of (h.1 _ _ LD)) ?_ ?_ ci cr ?_
 .rintro i x H3 hi ⟨s3,vs,Kc,Lg⟩;have NG:i<(lvA (c9 n) k).length:=by rw[<-ulen];exact(AD.mp hi).1
  obtain⟨a1,ws,f1,f2,f3⟩:=Lis i _ (A2 NG);rw[hi] at f1;cases f1;have wl:((lvA (c9 n) k)[i]).length<=15:=by
   have:=kI (c9 n) k _ (D6 NG);have:(c9 n).length<=(bo n).length:=by unfold c9;simp;lia
   lia
  have hrow:Is H3 (pts (bo n)) (.ref l0):=(Mj.mono Nj).mono s3;have g0:atI ((bo n).map pt) 0=some (pt (p0 n)):=zD (j:=0) rfl (JR d1 d4);have gl:atI ((bo n).map pt) (-1)=some (pt (pl n)):=JS d1 d4;refine dm ?_;refine⟨_,rfl,_,0,_,hrow,rfl,g0,fun u hu=>⟨(zB rfl),fun c1 H4 n4 s4 h4=> ?_⟩⟩;refine⟨_,rfl,_,_,aD h4 (am (hu.mono s4) ap),aD (s4 _ _ (s3 _ _ f2)) ((f3.mono s3).mono s4),Ae (aA (by simp;lia)),fun c2 H5 n5 s5 h5=> ?_⟩;refine⟨_,rfl,1,rfl,_,_,_,(hrow.mono s4).mono s5,rfl,gl,fun u2 Lj=>⟨(zB rfl),fun c3 H6 n6 s6 h6=> ?_⟩⟩;refine⟨_,_,h5.mono s6,aD h6 (am (Lj.mono s6) ap),Ae (aA (by simp;lia)),fun c4 H7 n7 s7 h7=> ?_⟩;have s37:ae H3 H7:=((s4.trans s5).trans s6).trans s7;refine⟨acc,vs,_,rfl,rfl,s37 _ _ Kc,aA (by rw[Lg.length];simp;lia),(s3.trans s37).put na, ?_⟩;rw[AN,show(bR n k)[i]? =some ([p0 n]++(lvA (c9 n) k)[i]++[pl n]) by unfold bR;rw[AF,A2 NG];rfl,A5];have Li:=s6 _ _ (s5 _ _ (s4 _ _ Kc));refine iI (Lg.mono (dq s37)) (JO (s7 _ _ Li) (bG Li n7).symm ?_);show Is H7 (.l (([p0 n]++(lvA (c9 n) k)[i]++[pl n]).map pt)) _;rw[A5,A5];exact h7
 .rintro H3 ⟨s3,g⟩;rw[ulen,<-OW,AR] at g;have KH:ae H H3:=(s1.trans Nj).trans s3;obtain⟨_,vs,e,Kc,Lg⟩:=aB g.is;cases e;have LX:vs.length=(bR n k).length:=by rw[Lg.length,A1]
  refine vT Kc Lg (fun x v h=>let ⟨a,ys,e1,e2,_⟩:=iH h;⟨a,ys,e1,e2⟩) (fun _ _ _ _ h h'=>zV h h') h64 hsw fun p q pp nq=> ?_;refine k2 (p.map fun i=>(bR n k).getD i []) q _ (vU pp) (KH.put (KH.free nq)) (KH.free nq) ?_;exact aD ak ((oM [] Lg p fun i h=>AW.mp (pp.mem_iff.mp h)).mono (ae.new nq))
 .rintro σ H R R' k ⟨v1,e1,xs,i,d,h1,e2,e3,h⟩;refine⟨v1,e1,xs,i,d,h1,e2,e3,fun u hu=> ?_⟩;obtain⟨z,h⟩:=h u hu;refine⟨z,fun p H2 np s2 hp=> ?_⟩;obtain⟨v2,f1,a1,a2,f2,f3,f4,h⟩:=h p H2 np s2 hp;refine⟨v2,f1,a1,a2,f2,f3,f4,fun p H3 np s3 hp=> ?_⟩;obtain⟨v3,g1,i3,g2,xs3,j3,d3,g3,g4,g5,h⟩:=h p H3 np s3 hp;refine⟨v3,g1,i3,g2,xs3,j3,d3,g3,g4,g5,fun u hu=> ?_⟩;obtain⟨z,h⟩:=h u hu;refine⟨z,fun p H4 np s4 hp=> ?_⟩;obtain⟨a1,a2,f2,f3,f4,h⟩:=h p H4 np s4 hp;exact⟨a1,a2,f2,f3,f4,fun p H5 np s5 hp=>k _ _ (h p H5 np s5 hp)⟩
theorem JU {P:O0}{w:O2}{b:OZ}{ka kb:O4 (O4 (O4 Int)×V)} (da:DN P w H a ka) (db:DN P w H b kb) (k:vS a b H H'):LTS H H':=by
 obtain⟨_,_,xs,_,e⟩:=da;obtain⟨_,_,ys,_,e2⟩:=db;exact⟨fun c zs h=>k _ _ h (by rintro rfl;rw[e] at h;cases h) (by rintro rfl;rw[e2] at h;cases h),fun c zs h=>k _ _ h (by rintro rfl;rw[e] at h;cases h) (by rintro rfl;rw[e2] at h;cases h)⟩
theorem JV:FnOk P w K mg base (CX0) 46 T.f63 T.d63 ["d","k"] spCbW:=by
 refine FbO T.X63 gX fun _ _ _ _ H vs Q E hr h=> ?_;obtain⟨d,k,rfl,hN,kk⟩:=h;refine⟨_,(aj (aT (pcq (vY T) hr T.X2 (ab (pv 0) (ab (pv 1) af))))
  (aj (pSA (i:=2) gX.nd (pcq (JL T) hr T.X61 (ab (pv 0) af)))
  (aj (pSA (i:=3) gX.nd (pcq (JM T) hr T.X62 (ab (pv 0) af)))
  (aj (pSA (i:=4) gX.nd ag)
  (aj (aL AO rfl (aY (pcq (JT T) hr T.X59 (ab (pv 0) (ab (pv 1) af)))) (pGA (i:=5) gX.nd) (ai (fK (i:=4) gX.nd rfl (by trivial) (ah (yQ yR) (pcq (pU T 40) hr T.X60 (ab (pv 0) (ab (pv 5) (ab (jq (v:= .int (1)) (by rfl) T.m_LEFT ⟨_,rfl⟩) (ab (pv 2) af))))) (pcq (pU T 40) hr T.X60 (ab (pv 0) (ab (pv 5) (ab (jq (v:= .int (-1)) (by rfl) T.m_RIGHT ⟨_,rfl⟩) (ab (pv 3) af)))))) iu)))
  (ai (ao (pv 4)))))))), ?_⟩
 have d1:1<=d:=hN.1;have d4:d<=4:=by unfold dy at hN;lia
 refine⟨_,rfl,_,rfl,d,k,rfl,hN, ?_⟩;refine⟨_,rfl,d,rfl,d1,d4,fun ko Ro H1 s1 nko hDo hKo=> ?_⟩;refine⟨_,rfl,d,rfl,d1,d4,fun ku Ru H2 s2 nku hDu hKu=> ?_⟩;have hDo2:=hDo.mono s2;have kou:ko≠ku:=by
  obtain⟨_,_,xs,_,e⟩:=id hDo;rintro rfl;rw[e] at nku;cases nku
 have nkuH:H ku=none:=s1.free nku;refine⟨_,rfl,_,rfl,d,k,rfl,hN,(kR hN).1,fun S l H3 pS s3 nl hl=> ?_⟩;have hwk:∀w∈S,aH d w:=fun w hw=>(kR hN).2.1 w (pS.mem_iff.mp hw);rw[show eE d (bR d k)=eE d S from(IV pS).symm] at kk;clear pS;obtain⟨_,KI,e,LK,Mf⟩:=aB hl;cases e;have LH:KI.length=S.length:=by rw[Mf.length,A1]
 have hDo3:=hDo2.mono s3;have hDu3:=hDu.mono s3;have lko:l≠ko:=by
  obtain⟨_,_,xs,_,e⟩:=id hDo2;rintro rfl;rw[e] at nl;cases nl
 have lku:l≠ku:=by
  obtain⟨_,_,xs,_,e⟩:=id hDu;rintro rfl;rw[e] at nl;cases nl
 have KH:=(s1.trans s2).trans s3;refine⟨l,rfl,⟨_,SqL.of LK⟩,bP (xs:=KI) (fun j σ H4=>(∃v5,σ=[some (.int d),some (.int k),some (.ref ko),some (.ref ku),some (.int (eE d (S.take j))),v5])/\vS ko ku H3 H4/\(∃Ro,DN P w H4 ko (tK Ro)/\KnG d (upE d) (wW d) Ro)/\∃Ru,DN P w H4 ku (tK Ru)/\KnG d (loE d) (vW d) Ru) ⟨⟨none,rfl⟩,fun c o e _ _=>e,⟨Ro,hDo3,hKo⟩,Ru,hDu3,hKu⟩ (fun j σ H4 _ h=>SqL.of (h.2.1 _ _ LK lko lku)) ?_ ?_⟩
 .rintro j y σ H4 hj ⟨⟨v5,rfl⟩,b4,⟨Ro4,OX,hKo4⟩,Ru4,hDu4,hKu4⟩;obtain⟨ps,Ku,hy⟩:=bd Mf hj;have ok:=hwk ps (AV Ku);have N9:Is H4 (pts ps) y:=hy.lts (JU hDo3 hDu3 b4);have m1:=(oX d4).lo ps ok;have m2:=(oY d4).lo ps ok;refine⟨_,rfl,_,rfl,_,rfl,_,rfl,d,y,ko,ps,Ro4,1,upE d,wW d,_,rfl,oX d4,d1,d4,N9,ok,by lia,OX,hKo4,fun Ro5 H5 b5 hDo5 hKo5=> ?_⟩;have hDu5:DN P w H5 ku (tK Ru4):=DN.but hDu4 OX b5 (Ne.symm kou);have hy5:=N9.lts (jm OX b5);refine⟨_,rfl,_,rfl,_,rfl,d,y,ku,ps,Ru4,-1,loE d,vW d,_,rfl,oY d4,d1,d4,hy5,ok,by lia,hDu5,hKu4,fun Ru6 H6 b6 hDu6 hKu6=> ?_⟩;have hDo6:DN P w H6 ko (tK Ro5):=DN.but hDo5 hDu5 b6 kou;refine⟨_,_,rfl,rfl,⟨(oX d4).bits d4 ok,(oY d4).bits d4 ok⟩,_,_,rfl,rfl,⟨some y, ?_⟩,fun c o e n1 n2=>b6 _ _ (b5 _ _ (b4 c o e n1 n2) n1) n2,⟨Ro5,hDo6,hKo5⟩,Ru6,hDu6,hKu6⟩;unfold eE;rw[AN,Ku,A5,CD];simp
 .rintro σ H4 ⟨⟨v5,rfl⟩,b4,_,_⟩;rw[LH,AR];refine⟨_,rfl,kk H4 fun c o e=>b4 _ _ (KH _ _ e) (by rintro rfl;rw[nko] at e;cases e) (by rintro rfl;rw[nkuH] at e;cases e)⟩
theorem JW:OKQ T.X68 P w base 4 (spAskD K):=by
 refine FbO T.X68 fZ fun _ _ _ _ H vs Q E hr h=> ?_;obtain⟨a,ns,rfl,hS,kk⟩:=h;refine⟨_,(aj (pSA (i:=1) fZ.nd (pcq (IZ T) hr T.X65 (ab (pcq (IY T) hr T.X64 (ab (pv 0) (ab ag af))) (ab ag af))))
  (aj (pSA (i:=2) fZ.nd (ah aC ag (pcq (kT T) hr T.X67 (ab (pv 1) (ab ag af)))))
  (aj (pSA (i:=3) fZ.nd (pcq (kT T) hr T.X67 (ab (pv 1) (ab (aw cC (aN (ab ag (ab ag af))) (ah k9 (pv 2) ag) (fun _ _=>rfl)) af))))
  (aj (pSA (i:=4) fZ.nd (pcq (kT T) hr T.X67 (ab (pv 1) (ab ag af))))
  (aj (lE (aU (aM cK (pv 4) ag (aF _)) (aj (pSA (i:=2) fZ.nd (ah aC ag (pv 4)))
  (ai (pSA (i:=3) fZ.nd (pcq (kT T) hr T.X67 (ab (pv 1) (ab (aw cC (aN (ab ag (ab ag af))) (pv 4) (fun _ _=>rfl)) af)))))) aS))
  (aj (aU (aM cn (pv 4) ag (aF _)) (ai (ao (aZ (ab ag (ab ag af))))) aS)
  (ai (ao (aZ (ab (pv 2) (ab (pv 3) af))))))))))), ?_⟩
 refine⟨_,rfl,a,ns,0,rfl,hS,by decide,fun z=>⟨z,1,rfl,by decide,by decide,fun b Ld st H1 s1 nb hb hf Lm=> ?_⟩⟩;refine⟨_,rfl,b,5,Ld,st,rfl,hb,hf,Lm,by decide,by decide,fun y Nc Lo y0 y1 hf2 OC=>⟨_,_,rfl,rfl, ?_⟩⟩;obtain⟨m,rfl⟩:=B1 y0;have s2:ae H (upd H1 b (.lst [.int Nc, .int Lo])):=s1.put nb;have hb2:upd H1 b (.lst [.int Nc, .int Lo]) b=some (.lst [.int Nc, .int Lo]):=ak;generalize upd H1 b (.lst [.int Nc, .int Lo])=H2 at s2 hb2⊢;rw[show V.int (1+(m:Int))=V.int ((m+1:Nat):Int) by rw[show(1:Int)+(m:Int)=((m+1:Nat):Int) by lia]];refine⟨_,rfl,(zB rfl),fun q H5 nq s5 hq=>⟨_,rfl,_,_,rfl,rfl,⟨by decide,by decide⟩,q,_,_, .int (if m+1=5 then 4 else 7),rfl,rfl,SqL.of hq, ?_, ?_⟩⟩
 .have:m=0\/m=1\/m=2\/m=3\/m=4:=by lia
  rcases this with e|e|e|e|e<;>subst e<;>rfl
 refine⟨b,_,Nc,Lo,rfl,s5 _ _ hb2,hf2,OC,by split<;>decide,by split<;>decide,fun x Nd Nr x0 x1 NK hst5=> ?_⟩
 obtain⟨n,rfl⟩:=B1 x0;have hW:Wide (m+1) n:=by unfold Wide;split at x1<;>lia
 have s6:ae H (upd H5 b (.lst [.int Nd, .int Nr])):=(s2.trans s5).put nb;have ON:upd H5 b (.lst [.int Nd, .int Nr]) b=some (.lst [.int Nd, .int Nr]):=ak;generalize upd H5 b (.lst [.int Nd, .int Nr])=H6 at s6 ON⊢;refine⟨_,rfl,b,8,Nd,Nr,rfl,ON,NK,hst5,by decide,by decide,fun u MB st6 u0 u1 hf6 hst6=> ?_⟩;have s7:ae H (upd H6 b (.lst [.int MB, .int st6])):=s6.put nb;have hb7:upd H6 b (.lst [.int MB, .int st6]) b=some (.lst [.int MB, .int st6]):=ak;generalize upd H6 b (.lst [.int MB, .int st6])=H7 at s7 hb7⊢;refine⟨fun σ H8=>∃(d k:Nat) (Ld st:Int),σ=[some (.ref a),some (.ref b),some (.int d),some (.int k),some (.int u)]/\ae H H8/\H8 b=some (.lst [.int Ld, .int st])/\0<=Ld/\0<=st/\Wide d k, ?_, ?_⟩
 .refine⟨_,rfl,_,_,rfl,rfl,_,rfl,aX (fun c=> ?_) (fun c=> ?_)⟩
  .obtain⟨e,rfl⟩:=B1 u0;refine⟨_,rfl,_,_,rfl,rfl, ?_⟩;refine⟨_,rfl,(zB rfl),fun q2 H9 nq2 s9 hq2=>⟨_,rfl,q2,_,_, .int (if e=1 then 3 else 7),rfl,rfl,SqL.of hq2, ?_, ?_⟩⟩
   .have:e=0\/e=1:=by lia
    rcases this with e|e<;>subst e<;>rfl
   refine⟨b,_,MB,st6,rfl,s9 _ _ hb7,hf6,hst6,by split<;>decide,by split<;>decide,fun x2 far8 st8 x20 x21 hf8 hst8=> ?_⟩
   obtain⟨n2,rfl⟩:=B1 x20;refine⟨e+3,n2,far8,st8, ?_,(s7.trans s9).put nb,ak,hf8,hst8,by unfold Wide;split at x21<;>lia⟩
   rw[show((e+3:Nat):Int)=3+(e:Int) by lia];rfl
  .exact⟨m+1,n,MB,st6,rfl,s7,hb7,hf6,hst6,hW⟩
 rintro σ H8 ⟨d,k,far8,st8,rfl,s8,hb8,hf8,hst8,hW⟩;refine⟨_,rfl,rfl,_,rfl,cM (fun c=> ?_) (fun c=> ?_)⟩
 .exact⟨(zB rfl),fun t H3 nt s3 ht=>kk 5 3 t H3 (s8.trans s3) (by unfold Wide;lia) ht⟩
 exact⟨_,rfl,_,rfl,(zB rfl),fun t H3 nt s3 ht=>kk d k t H3 (s8.trans s3) hW ht⟩
theorem pV :List.replicate n v++[v]=List.replicate (n+1) v:=by
 rw[List.replicate_succ']
theorem JX:((List.range 5).all fun d=>decide (cT (d+1) 0=1)&&decide (cT (d+1) 1=3*(d:Int)*(d:Int)))=true:=by ac_nf
theorem JY:OKQ T.X69 P w base 59 (sp_law K):=by
 refine FbO T.X69 i7 fun _ _ _ _ H vs Q E hr h=> ?_;obtain⟨a,ns,rfl,hS,hl,kk⟩:=h;refine⟨_,(aj (k7 (pcq (JW T) hr T.X68 (ab (pv 0) af)) (cA rfl (aO (pGA (i:=1) i7.nd) (aO (pGA (i:=2) i7.nd) b0))))
  (aj (pSA (i:=3) i7.nd (aN (ab (pcq (Je T) hr T.X21 (ab (pv 1) (ab (pv 2) af))) (ab (pcq (Jt T) hr T.X35 (ab (pv 1) (ab (pv 2) (ab (aN af) (ab (aN (ab (pv 1) af)) af))))) af))))
  (aj (lE (aU (fm (aM cK (pv 1) ag (aF _)) (gm (jt (aM cn (pv 1) ag (aF _)) (jr (aM cK (pv 2) ag (aF _)))).pt)).pt (ai (aT (bQ Aa Ax Aw cU (pv 3) (ab (pcq (JV T) hr T.X63 (ab (pv 1) (ab (pv 2) af))) af)))) aS))
  (aj (lE (aU (aM cK (pv 2) ag (aF _)) (ai (aT (bQ Aa Ax Aw cU (pv 3) (ab (pcq (JD T) hr T.X49 (ab (pv 1) (ab (pv 2) af))) af)))) aS))
  (aj (aL AO rfl (aY (pv 3)) (pGA (i:=4) i7.nd) (ai (aU (fm (fI (dQ (bi iB (by rfl) T.n_isinstance DZ (ab (pv 4) (ab (io (v:= .ty "int") (by rfl) T.n_int boot_int (by rfl)) af))))) (fm (dQ (bi iB (by rfl) T.n_isinstance DZ (ab (pv 4) (ab (io (v:= .ty "bool") (by rfl) T.n_bool boot_bool (by rfl)) af)))) (gm (aM qr (pv 4) (aw cC (pv 3) ag (fun _ _=>rfl)) (aF _))))).pt (ai (ao kX)) aS)))
  (aj (aU (aM cn (pv 2) ag (aF _)) (ai (ao (eO cn (aw cC (pv 3) ag (fun _ _=>rfl)) ag (aF _)))) aS)
  (ai (ao (qc (eO dR (pv 2) ag (aF _)) (ip (eO cn (aw cC (pv 3) ag (fun _ _=>rfl)) (ah bC (ah bC ag (ah aK (pv 1) ag)) (ah aK (pv 1) ag)) (aF _)))))))))))), ?_⟩
 refine⟨_,rfl,a,ns,rfl,hS,fun d k t H1 s1 hW ht=> ?_⟩;have d15:1<=d/\d<=5:=by unfold Wide at hW;lia
 have k6:k<=6:=by unfold Wide at hW;lia
 refine⟨t,_,rfl,SqT.of ht,rfl,_,_,rfl,_,_,rfl,rfl, ?_⟩;refine⟨_,rfl,_,rfl,d,k,rfl,hW,fun H2 s2=> ?_⟩;refine⟨_,rfl,_,rfl,AQ _,fun l1 H3 n1 s3 h1=>⟨_,rfl,(zB rfl),fun l2 H4 n2 s4 h2=> ?_⟩⟩;have r1:Is H4 (rwL []) (.ref l1):=ji (s4 _ _ h1);have r2:Is H4 (rwL [(d:Int)]) (.ref l2):=ji h2;have ro:eI [(d:Int)]:=⟨fun i=>by cases i<;>simp,by simp, .inr ⟨[],d,rfl,by lia⟩⟩
 refine⟨d,k,_,_,[],[(d:Int)],rfl,hW,r1,r2,⟨fun i=>by simp,by simp, .inl rfl⟩,ro,by simp[wtF,wtG],by simp,by simpa using d15.1,fun H5 s5=> ?_⟩;rw[G8 hW];refine⟨(zB rfl),fun tl H6 ntl s6 M5=> ?_⟩;rw[(ph hW).2.2] at M5;have M5:H6 tl=some (.lst (List.replicate (1+1) (V.int (cT d k)))):=M5;refine⟨fun σ H7=>∃n:Nat,n<=3/\σ=[some (.ref a),some (.int d),some (.int k),some (.ref tl),none]/\H7 tl=some (.lst (List.replicate (n+1) (V.int (cT d k)))), ?_, ?_⟩
 .refine⟨_,rfl,_,_,rfl,rfl,_,rfl,aX (fun c=> ?_) (fun c=> ?_)⟩
  .have hN:dy d k:=by unfold dy;lia
   refine⟨_,rfl, .inl ⟨rfl,_,SqL.of M5⟩,_,rfl,_,rfl,d,k,rfl,hN,fun H7 s7=> ?_⟩;rw[(kR hN).2.2];exact⟨tl,_,_,rfl,rfl,s7 _ _ M5,aA (by rw[B2];lia),2,by lia,rfl,by rw[ak,pV]⟩
  .refine⟨_,rfl,rfl,_,rfl,cM (fun c4=> ?_) (fun c4=> ?_)⟩
   .refine⟨_,rfl,_,_,rfl,rfl,_,rfl,aX (fun c3=> ?_) (fun c3=> ?_)⟩
    .have hN:dy d k:=by unfold dy;lia
     refine⟨_,rfl, .inl ⟨rfl,_,SqL.of M5⟩,_,rfl,_,rfl,d,k,rfl,hN,fun H7 s7=> ?_⟩;rw[(kR hN).2.2];exact⟨tl,_,_,rfl,rfl,s7 _ _ M5,aA (by rw[B2];lia),2,by lia,rfl,by rw[ak,pV]⟩
    .exact⟨1,by lia,rfl,M5⟩
   .exact⟨1,by lia,rfl,M5⟩
 rintro σ H7 ⟨n,n3,rfl,h7⟩;refine⟨fun σ H8=>∃n:Nat,n<=4/\σ=[some (.ref a),some (.int d),some (.int k),some (.ref tl),none]/\H8 tl=some (.lst (List.replicate (n+1) (V.int (cT d k)))), ?_, ?_⟩
 .refine⟨_,rfl,_,_,rfl,rfl,_,rfl,aX (fun c=> ?_) (fun c=> ?_)⟩
  .refine⟨_,rfl, .inl ⟨rfl,_,SqL.of h7⟩,_,rfl,_,rfl,d,k,rfl,d15.1,d15.2,by lia,fun H8 s8=> ?_⟩;rw[(ph hW).2.2];exact⟨tl,_,_,rfl,rfl,s8 _ _ h7,aA (by rw[B2];lia),n+1,by lia,rfl,by rw[ak,pV]⟩
  .exact⟨n,by lia,rfl,h7⟩
 clear h7;rintro σ H8 ⟨n,n4,rfl,h8⟩;have at0:atI (List.replicate (n+1) (V.int (cT d k))) 0=some (.int (cT d k)):=jB (j:=0) (by rw[BP];rfl);refine⟨_,rfl,tl,rfl,⟨_,SqL.of h8⟩,bP (xs:=List.replicate (n+1) (V.int (cT d k))) (fun i σ H9=>(∃v4,σ=[some (.ref a),some (.int d),some (.int k),some (.ref tl),v4])/\H9=H8) ⟨⟨none,rfl⟩,rfl⟩ (fun i σ H9 _ h=>by rw[h.2];exact SqL.of h8) ?_ ?_⟩
 .rintro i y σ H9 hi ⟨⟨v4,rfl⟩,rfl⟩;have ey:y= .int (cT d k):=by
   rw[Co] at hi;split at hi
   .exact(Ao hi).symm
   .cases hi
  subst ey;refine⟨_,rfl,_,"int",_,true,rfl, .int _,vz,true,rfl,bn ⟨_,rfl,_,"bool",_,false,rfl, .int _,rfl,false,rfl,bn ?_⟩⟩;exact⟨_,rfl,_,rfl,tl,_,0,_,rfl,rfl,SqL.of h8,at0,rfl,_,rfl,yB rfl ⟨⟨_,rfl⟩,rfl⟩⟩
 .rintro σ H9 ⟨⟨v4,rfl⟩,rfl⟩;have cf:=JX;simp only[AS,AW,A9,AU] at cf;obtain⟨c0,c1⟩:=cf (d-1) (by lia);rw[show d-1+1=d by lia] at c0 c1;have tru:∀(i j:Int) (R:VK) (H6:Hp),i=j->R (.bl true) H6->R (.bl (decide (V.int i=V.int j))) H6:=fun i j R H6 e hR=>by
   rw[show(decide (V.int i=V.int j))=true from Ag (by rw[e])];exact hR
  refine⟨_,rfl,rfl,_,rfl,cM (fun c=> ?_) (fun c=> ?_)⟩
  .obtain rfl:k=0:=by lia
   exact⟨_,rfl,tl,_,0,_,rfl,rfl,SqL.of h8,at0,rfl,tru _ _ _ _ c0 (kk _)⟩
  .by_cases k1:1<k
   .exact⟨_,rfl,_,_,rfl,rfl,true,BN V.bl (Ag (by lia)),dC (kk _)⟩
   .obtain rfl:k=1:=by lia
    refine⟨_,rfl,_,_,rfl,rfl,false,BN V.bl (AX (by lia)),bn ?_⟩;exact⟨_,rfl,tl,_,0,_,rfl,rfl,SqL.of h8,at0,_,rfl,_,_,rfl,rfl,_,_,rfl,rfl, .inl ⟨by decide,by decide⟩,_,rfl,_,_,rfl,rfl,_,_,rfl,rfl, .inr ⟨by lia,by lia⟩,rfl,tru _ _ _ _ (by rw[c1,show((d-1:Nat):Int)=(d:Int)-1 by lia]) (kk _)⟩
end
theorem fb1 {n q:Str}{ps:O4 Str}{d:O1} (F:Fun K q q st f d) (e:mg n=some (.ref f)) (hp:ps.length=1) (h:∀(kV dc pm:MR) (an:O7 OZ) (cd ct x0:MR),bindArgs (W.fnOf q q (eQ st) (dB st) (al st) .none kV dc pm an cd ct) ⟨[x0],[]⟩=pure (ps.zip [x0])):Fg K mg n q st ps f d:=by
 refine⟨F,F.binds fun kV dc pm an cd ct us hl=> ?_,e⟩;rw[hp] at hl;rcases us with _|⟨x0,us⟩
 .simp at hl
 rcases us with _|⟨y,us⟩
 .exact h kV dc pm an cd ct x0
 .simp at hl
theorem fb2 {n q:Str}{ps:O4 Str}{d:O1} (F:Fun K q q st f d) (e:mg n=some (.ref f)) (hp:ps.length=2) (h:∀(kV dc pm:MR) (an:O7 OZ) (cd ct x0 x1:MR),bindArgs (W.fnOf q q (eQ st) (dB st) (al st) .none kV dc pm an cd ct) ⟨[x0,x1],[]⟩=pure (ps.zip [x0,x1])):Fg K mg n q st ps f d:=by
 refine⟨F,F.binds fun kV dc pm an cd ct us hl=> ?_,e⟩;rw[hp] at hl;rcases us with _|⟨x0,us⟩
 .simp at hl
 rcases us with _|⟨x1,us⟩
 .simp at hl
 rcases us with _|⟨y,us⟩
 .exact h kV dc pm an cd ct x0 x1
 .simp at hl
theorem fb3 {n q:Str}{ps:O4 Str}{d:O1} (F:Fun K q q st f d) (e:mg n=some (.ref f)) (hp:ps.length=3) (h:∀(kV dc pm:MR) (an:O7 OZ) (cd ct x0 x1 x2:MR),bindArgs (W.fnOf q q (eQ st) (dB st) (al st) .none kV dc pm an cd ct) ⟨[x0,x1,x2],[]⟩=pure (ps.zip [x0,x1,x2])):Fg K mg n q st ps f d:=by
 refine⟨F,F.binds fun kV dc pm an cd ct us hl=> ?_,e⟩;rw[hp] at hl;rcases us with _|⟨x0,us⟩
 .simp at hl
 rcases us with _|⟨x1,us⟩
 .simp at hl
 rcases us with _|⟨x2,us⟩
 .simp at hl
 rcases us with _|⟨y,us⟩
 .exact h kV dc pm an cd ct x0 x1 x2
 .simp at hl
theorem fb4 {n q:Str}{ps:O4 Str}{d:O1} (F:Fun K q q st f d) (e:mg n=some (.ref f)) (hp:ps.length=4) (h:∀(kV dc pm:MR) (an:O7 OZ) (cd ct x0 x1 x2 x3:MR),bindArgs (W.fnOf q q (eQ st) (dB st) (al st) .none kV dc pm an cd ct) ⟨[x0,x1,x2,x3],[]⟩=pure (ps.zip [x0,x1,x2,x3])):Fg K mg n q st ps f d:=by
 refine⟨F,F.binds fun kV dc pm an cd ct us hl=> ?_,e⟩;rw[hp] at hl;rcases us with _|⟨x0,us⟩
 .simp at hl
 rcases us with _|⟨x1,us⟩
 .simp at hl
 rcases us with _|⟨x2,us⟩
 .simp at hl
 rcases us with _|⟨x3,us⟩
 .simp at hl
 rcases us with _|⟨y,us⟩
 .exact h kV dc pm an cd ct x0 x1 x2 x3
 .simp at hl
def Hf (K:W.Frag) (n:Str) (st:O8) (f:OZ) (q:Str:=n):Prop:=W.nsIn K mainGlobals n=some (some (.ref f))/\∃d,Fun K q q st f d
def JZ {n q:Str}{od an:O7 OZ}{sl:Array (O7 MR)}{oc kV dc pm cd ct:MR} (a:W.nsIn K mainGlobals n=some (some (.ref f))) (l:K.lookup f=some ⟨oc,od, .func (W.fnOf q q (eQ st) (dB st) (al st) .none kV dc pm an cd ct),sl⟩) (c:W.codeIn K cd q=true) (k:W.keepIn K (.ref f)=true):Hf K n st f q:=⟨a,_,yA l c k⟩
theorem J0 {h:O6}{fa:OZ} (X:K.In h) (G:h.Ns mainGlobals mg) (hfa:mg "law"=some (.ref fa))
  {f0 f1 f2 f3 f4 f5 f6 f7 f8 f9 f10 f11 f12 f13 f14 f15 f16 f17 f18 f19 f20 f21 f22 f23 f24 f25 f26 f27 f28 f29 f30 f31 f32 f33 f34 f35 f36 f37 f38 f39 f40 f41 f42 f43 f44 f45 f46 f47 f48 f49 f50 f51 f52 f53 f54 f55 f56 f57 f58 f59 f60 f61 f62 f63 f64 f65 f66 f67 f68 f69:OZ}
  (h0:Hf K "is_whole" mH f0)
  (h1:Hf K "need_between" mI f1)
  (h2:Hf K "need_narrow" mJ f2)
  (h3:Hf K "need_wide" mL f3)
  (h4:Hf K "need_degree" mM f4)
  (h5:Hf K "choose" mN f5)
  (h6:Hf K "ends_at" mO f6)
  (h7:Hf K "sound" mP f7)
  (h8:Hf K "lost" mQ f8)
  (h9:Hf K "lifts_from" mR f9)
  (h10:Hf K "leaving" mS f10)
  (h11:Hf K "with_floor" iT f11)
  (h12:Hf K "drawings" jU f12)
  (h13:Hf K "worth_floors" mT f13 "worth")
  (h14:Hf K "with_more" mU f14)
  (h15:Hf K "product_of" mV f15)
  (h16:Hf K "need_sound" mW f16)
  (h17:Hf K "end_marks" mX f17)
  (h18:Hf K "put_between" mY f18)
  (h19:Hf K "how_many_orders" mZ f19)
  (h20:Hf K "how_many" m3 f20)
  (h21:Hf K "count_by_floors" jY f21)
  (h22:Hf K "is_row" m4 f22)
  (h23:Hf K "row_weight" iU f23)
  (h24:Hf K "need_rows" m5 f24)
  (h25:Hf K "filled_up" m6 f25)
  (h26:Hf K "rows_within" jZ f26)
  (h27:Hf K "rows_beyond" m7 f27)
  (h28:Hf K "choices" m8 f28)
  (h29:Hf K "weights_gained" m9 f29)
  (h30:Hf K "with_one_held" ng f30)
  (h31:Hf K "with_one_degree_fewer" nh f31)
  (h32:Hf K "summands" ni f32)
  (h33:Hf K "counted_ends" nj f33 "counted")
  (h34:Hf K "asked_of" nu f34)
  (h35:Hf K "by_ends" nv f35)
  (h36:Hf K "length" j5 f36)
  (h37:Hf K "long_lifts" j6 f37)
  (h38:Hf K "losing" ny f38)
  (h39:Hf K "lies_within" j8 f39)
  (h40:Hf K "is_template" j9 f40)
  (h41:Hf K "templates" j' f41)
  (h42:Hf K "load" kc f42)
  (h43:Hf K "least_place" ke f43)
  (h44:Hf K "words_at" kf f44)
  (h45:Hf K "last_place" kg f45)
  (h46:Hf K "standings" nB f46)
  (h47:Hf K "counted_templates" nC f47 "counted")
  (h48:Hf K "count_of_rows" nD f48)
  (h49:Hf K "count_by_templates" nE f49)
  (h50:Hf K "points" nF f50)
  (h51:Hf K "is_point" nG f51)
  (h52:Hf K "corner" nH f52)
  (h53:Hf K "upper_edge" ki f53)
  (h54:Hf K "lower_edge" i0 f54)
  (h55:Hf K "first_turn" nI f55)
  (h56:Hf K "steps" nJ f56)
  (h57:Hf K "piece_worth" nL f57)
  (h58:Hf K "leaving_out" kj f58)
  (h59:Hf K "ways" km f59)
  (h60:Hf K "worth_ways" nM f60 "worth")
  (h61:Hf K "known_above" nN f61)
  (h62:Hf K "known_below" nO f62)
  (h63:Hf K "count_by_ways" nQ f63)
  (h64:Hf K "_law_cell_at" nR f64)
  (h65:Hf K "_law_bag" nS f65)
  (h66:Hf K "_law_mixed" nU f66)
  (h67:Hf K "_law_digit" nV f67)
  (h68:Hf K "_law_asked" nW f68)
  (h69:Hf K "law" nX f69)
  (zz:∀n∈["isinstance","int","bool","range","min","enumerate","sum","sorted","tuple","set","list","len","zip","max","any","all","abs"],W.nsIn K mainGlobals n=some none)
  {K_LEFT:Tok} (mi_LEFT:W.nsIn K mainGlobals "LEFT"=some (some (.int (1) K_LEFT)))
  {K_RIGHT:Tok} (mi_RIGHT:W.nsIn K mainGlobals "RIGHT"=some (some (.int (-1) K_RIGHT)))
  {A_NARROW:OZ} (da_NARROW:W.nsIn K mainGlobals "NARROW"=some (some (.ref A_NARROW))) (dt_NARROW:gH K A_NARROW [(1,6),(2,6),(3,6),(4,2)]=true)
  {A_WIDE:OZ} (da_WIDE:W.nsIn K mainGlobals "WIDE"=some (some (.ref A_WIDE))) (dt_WIDE:gH K A_WIDE [(1,6),(2,6),(3,6),(4,6),(5,3)]=true)
  {C_NoBound:OZ} (ca_NoBound:W.nsIn K mainGlobals "NoBound"=some (some (.ref C_NoBound)))
  {C_NoDrawing:OZ} (ca_NoDrawing:W.nsIn K mainGlobals "NoDrawing"=some (some (.ref C_NoDrawing)))
  {C_NoEnds:OZ} (ca_NoEnds:W.nsIn K mainGlobals "NoEnds"=some (some (.ref C_NoEnds)))
  (cx_NoBound:W.excIn K C_NoBound bmV "ValueError.__new__"=true) (xc_NoBound:XC K C_NoBound)
  (cx_NoDrawing:W.excIn K C_NoDrawing bmV "ValueError.__new__"=true) (xc_NoDrawing:XC K C_NoDrawing)
  (cx_NoEnds:W.excIn K C_NoEnds bmV "ValueError.__new__"=true) (xc_NoEnds:XC K C_NoEnds)
  :∃fd:O1,(∀(s:OY) (v:MR),BindsTo s fd ⟨[v],[]⟩ [("_law_script",v)])/\∀base:O6,K.In base->base.Ns mainGlobals mg->FnOk l.prog w K mg base CX0 59 fa fd ["_law_script"] (sp_law K):=by
 obtain⟨a0,d0,F0⟩:=h0;obtain⟨a1,d1,F1⟩:=h1;obtain⟨a2,d2,F2⟩:=h2;obtain⟨a3,d3,F3⟩:=h3;obtain⟨a4,d4,F4⟩:=h4;obtain⟨a5,d5,F5⟩:=h5;obtain⟨a6,d6,F6⟩:=h6;obtain⟨a7,d7,F7⟩:=h7;obtain⟨a8,d8,F8⟩:=h8;obtain⟨a9,d9,F9⟩:=h9;obtain⟨a10,d10,F10⟩:=h10;obtain⟨a11,d11,F11⟩:=h11;obtain⟨a12,d12,F12⟩:=h12;obtain⟨a13,d13,F13⟩:=h13;obtain⟨a14,d14,F14⟩:=h14;obtain⟨a15,d15,F15⟩:=h15;obtain⟨a16,d16,F16⟩:=h16;obtain⟨a17,d17,F17⟩:=h17;obtain⟨a18,d18,F18⟩:=h18;obtain⟨a19,d19,F19⟩:=h19;obtain⟨a20,d20,F20⟩:=h20;obtain⟨a21,d21,F21⟩:=h21;obtain⟨a22,d22,F22⟩:=h22;obtain⟨a23,d23,F23⟩:=h23;obtain⟨a24,d24,F24⟩:=h24;obtain⟨a25,d25,F25⟩:=h25;obtain⟨a26,d26,F26⟩:=h26;obtain⟨a27,d27,F27⟩:=h27;obtain⟨a28,d28,F28⟩:=h28;obtain⟨a29,d29,F29⟩:=h29;obtain⟨a30,d30,F30⟩:=h30;obtain⟨a31,d31,F31⟩:=h31;obtain⟨a32,d32,F32⟩:=h32;obtain⟨a33,d33,F33⟩:=h33;obtain⟨a34,d34,F34⟩:=h34;obtain⟨a35,d35,F35⟩:=h35;obtain⟨a36,d36,F36⟩:=h36;obtain⟨a37,d37,F37⟩:=h37;obtain⟨a38,d38,F38⟩:=h38;obtain⟨a39,d39,F39⟩:=h39;obtain⟨a40,d40,F40⟩:=h40;obtain⟨a41,d41,F41⟩:=h41;obtain⟨a42,d42,F42⟩:=h42;obtain⟨a43,d43,F43⟩:=h43;obtain⟨a44,d44,F44⟩:=h44;obtain⟨a45,d45,F45⟩:=h45;obtain⟨a46,d46,F46⟩:=h46;obtain⟨a47,d47,F47⟩:=h47;obtain⟨a48,d48,F48⟩:=h48;obtain⟨a49,d49,F49⟩:=h49;obtain⟨a50,d50,F50⟩:=h50;obtain⟨a51,d51,F51⟩:=h51;obtain⟨a52,d52,F52⟩:=h52;obtain⟨a53,d53,F53⟩:=h53;obtain⟨a54,d54,F54⟩:=h54;obtain⟨a55,d55,F55⟩:=h55;obtain⟨a56,d56,F56⟩:=h56;obtain⟨a57,d57,F57⟩:=h57;obtain⟨a58,d58,F58⟩:=h58;obtain⟨a59,d59,F59⟩:=h59;obtain⟨a60,d60,F60⟩:=h60;obtain⟨a61,d61,F61⟩:=h61;obtain⟨a62,d62,F62⟩:=h62;obtain⟨a63,d63,F63⟩:=h63;obtain⟨a64,d64,F64⟩:=h64;obtain⟨a65,d65,F65⟩:=h65;obtain⟨a66,d66,F66⟩:=h66;obtain⟨a67,d67,F67⟩:=h67;obtain⟨a68,d68,F68⟩:=h68;obtain⟨a69,d69,F69⟩:=h69;cases hfa.symm.trans (W.mg_of X G a69);have Wq:=F69;obtain⟨_,_,_,_,_,_,_,_,_,rfl,_⟩:=F69.ex;have g {n:Str}{v:MR} (e:W.nsIn K mainGlobals n=some (some v)):mg n=some v:=W.mg_of X G e;exact⟨_,fun s v=> .of_eq rfl,fun base _ _=>JY (⟨f0,_,f1,_,f2,_,f3,_,f4,_,f5,_,f6,_,f7,_,f8,_,f9,_,f10,_,f11,_,f12,_,f13,_,f14,_,f15,_,f16,_,f17,_,f18,_,f19,_,f20,_,f21,_,f22,_,f23,_,f24,_,f25,_,f26,_,f27,_,f28,_,f29,_,f30,_,f31,_,f32,_,f33,_,f34,_,f35,_,f36,_,f37,_,f38,_,f39,_,f40,_,f41,_,f42,_,f43,_,f44,_,f45,_,f46,_,f47,_,f48,_,f49,_,f50,_,f51,_,f52,_,f53,_,f54,_,f55,_,f56,_,f57,_,f58,_,f59,_,f60,_,f61,_,f62,_,f63,_,f64,_,f65,_,f66,_,f67,_,f68,_,fa,_,fb1 F0 (g a0) rfl fun _ _ _ _ _ _ _=>rfl,fb3 F1 (g a1) rfl fun _ _ _ _ _ _ _ _ _=>rfl,fb2 F2 (g a2) rfl fun _ _ _ _ _ _ _ _=>rfl,fb2 F3 (g a3) rfl fun _ _ _ _ _ _ _ _=>rfl,fb1 F4 (g a4) rfl fun _ _ _ _ _ _ _=>rfl,fb2 F5 (g a5) rfl fun _ _ _ _ _ _ _ _=>rfl,fb2 F6 (g a6) rfl fun _ _ _ _ _ _ _ _=>rfl,fb2 F7 (g a7) rfl fun _ _ _ _ _ _ _ _=>rfl,fb1 F8 (g a8) rfl fun _ _ _ _ _ _ _=>rfl,fb4 F9 (g a9) rfl fun _ _ _ _ _ _ _ _ _ _=>rfl,fb3 F10 (g a10) rfl fun _ _ _ _ _ _ _ _ _=>rfl,fb4 F11 (g a11) rfl fun _ _ _ _ _ _ _ _ _ _=>rfl,fb2 F12 (g a12) rfl fun _ _ _ _ _ _ _ _=>rfl,fb1 F13 (g a13) rfl fun _ _ _ _ _ _ _=>rfl,fb3 F14 (g a14) rfl fun _ _ _ _ _ _ _ _ _=>rfl,fb1 F15 (g a15) rfl fun _ _ _ _ _ _ _=>rfl,fb2 F16 (g a16) rfl fun _ _ _ _ _ _ _ _=>rfl,fb2 F17 (g a17) rfl fun _ _ _ _ _ _ _ _=>rfl,fb4 F18 (g a18) rfl fun _ _ _ _ _ _ _ _ _ _=>rfl,fb2 F19 (g a19) rfl fun _ _ _ _ _ _ _ _=>rfl,fb2 F20 (g a20) rfl fun _ _ _ _ _ _ _ _=>rfl,fb2 F21 (g a21) rfl fun _ _ _ _ _ _ _ _=>rfl,fb1 F22 (g a22) rfl fun _ _ _ _ _ _ _=>rfl,fb1 F23 (g a23) rfl fun _ _ _ _ _ _ _=>rfl,fb3 F24 (g a24) rfl fun _ _ _ _ _ _ _ _ _=>rfl,fb2 F25 (g a25) rfl fun _ _ _ _ _ _ _ _=>rfl,fb1 F26 (g a26) rfl fun _ _ _ _ _ _ _=>rfl,fb3 F27 (g a27) rfl fun _ _ _ _ _ _ _ _ _=>rfl,fb2 F28 (g a28) rfl fun _ _ _ _ _ _ _ _=>rfl,fb2 F29 (g a29) rfl fun _ _ _ _ _ _ _ _=>rfl,fb4 F30 (g a30) rfl fun _ _ _ _ _ _ _ _ _ _=>rfl,fb4 F31 (g a31) rfl fun _ _ _ _ _ _ _ _ _ _=>rfl,fb1 F32 (g a32) rfl fun _ _ _ _ _ _ _=>rfl,fb2 F33 (g a33) rfl fun _ _ _ _ _ _ _ _=>rfl,fb4 F34 (g a34) rfl fun _ _ _ _ _ _ _ _ _ _=>rfl,fb4 F35 (g a35) rfl fun _ _ _ _ _ _ _ _ _ _=>rfl,fb1 F36 (g a36) rfl fun _ _ _ _ _ _ _=>rfl,fb1 F37 (g a37) rfl fun _ _ _ _ _ _ _=>rfl,fb2 F38 (g a38) rfl fun _ _ _ _ _ _ _ _=>rfl,fb2 F39 (g a39) rfl fun _ _ _ _ _ _ _ _=>rfl,fb1 F40 (g a40) rfl fun _ _ _ _ _ _ _=>rfl,fb1 F41 (g a41) rfl fun _ _ _ _ _ _ _=>rfl,fb2 F42 (g a42) rfl fun _ _ _ _ _ _ _ _=>rfl,fb1 F43 (g a43) rfl fun _ _ _ _ _ _ _=>rfl,fb2 F44 (g a44) rfl fun _ _ _ _ _ _ _ _=>rfl,fb2 F45 (g a45) rfl fun _ _ _ _ _ _ _ _=>rfl,fb2 F46 (g a46) rfl fun _ _ _ _ _ _ _ _=>rfl,fb4 F47 (g a47) rfl fun _ _ _ _ _ _ _ _ _ _=>rfl,fb2 F48 (g a48) rfl fun _ _ _ _ _ _ _ _=>rfl,fb2 F49 (g a49) rfl fun _ _ _ _ _ _ _ _=>rfl,fb1 F50 (g a50) rfl fun _ _ _ _ _ _ _=>rfl,fb2 F51 (g a51) rfl fun _ _ _ _ _ _ _ _=>rfl,fb3 F52 (g a52) rfl fun _ _ _ _ _ _ _ _ _=>rfl,fb1 F53 (g a53) rfl fun _ _ _ _ _ _ _=>rfl,fb1 F54 (g a54) rfl fun _ _ _ _ _ _ _=>rfl,fb2 F55 (g a55) rfl fun _ _ _ _ _ _ _ _=>rfl,fb3 F56 (g a56) rfl fun _ _ _ _ _ _ _ _ _=>rfl,fb1 F57 (g a57) rfl fun _ _ _ _ _ _ _=>rfl,fb2 F58 (g a58) rfl fun _ _ _ _ _ _ _ _=>rfl,fb2 F59 (g a59) rfl fun _ _ _ _ _ _ _ _=>rfl,fb4 F60 (g a60) rfl fun _ _ _ _ _ _ _ _ _ _=>rfl,fb1 F61 (g a61) rfl fun _ _ _ _ _ _ _=>rfl,fb1 F62 (g a62) rfl fun _ _ _ _ _ _ _=>rfl,fb2 F63 (g a63) rfl fun _ _ _ _ _ _ _ _=>rfl,fb2 F64 (g a64) rfl fun _ _ _ _ _ _ _ _=>rfl,fb2 F65 (g a65) rfl fun _ _ _ _ _ _ _ _=>rfl,fb1 F66 (g a66) rfl fun _ _ _ _ _ _ _=>rfl,fb2 F67 (g a67) rfl fun _ _ _ _ _ _ _ _=>rfl,fb1 F68 (g a68) rfl fun _ _ _ _ _ _ _=>rfl,fb1 Wq (g a69) rfl fun _ _ _ _ _ _ _=>rfl,At X G (zz _ (by decide)),At X G (zz _ (by decide)),At X G (zz _ (by decide)),At X G (zz _ (by decide)),At X G (zz _ (by decide)),At X G (zz _ (by decide)),At X G (zz _ (by decide)),At X G (zz _ (by decide)),At X G (zz _ (by decide)),At X G (zz _ (by decide)),At X G (zz _ (by decide)),At X G (zz _ (by decide)),At X G (zz _ (by decide)),At X G (zz _ (by decide)),At X G (zz _ (by decide)),At X G (zz _ (by decide)),At X G (zz _ (by decide)),K_LEFT,g mi_LEFT,K_RIGHT,g mi_RIGHT,A_NARROW,g da_NARROW,dt_NARROW,A_WIDE,g da_WIDE,dt_WIDE,C_NoBound,g ca_NoBound,C_NoDrawing,g ca_NoDrawing,C_NoEnds,g ca_NoEnds,cx_NoBound,xc_NoBound,cx_NoDrawing,xc_NoDrawing,cx_NoEnds,xc_NoEnds⟩:Fns K mg)⟩
theorem walk {q:O0}{Lx:O4 Str}{XP:(Str->O7 MR)->O6->Prop}{YP:O2->O6->Prop}{d:DefRec}{K:Params->W.Frag} (hn:l.most=some 63) (hdf:d.params.defaults=[])
  (hY:∀(w:O2) (h:O6),YP w h->(K w.params).In h)
  (F:∀(w:O2) (mg:Str->O7 MR) (fa:OZ) (h:O6),(K w.params).In h->h.Ns mainGlobals mg->mg d.name=some (.ref fa)->
   ∃fd:O1,(∀(s:OY) (u:MR),BindsTo s fd ⟨[u],[]⟩ [("_law_script",u)])/\∀base:O6,(K w.params).In base->base.Ns mainGlobals mg->FnOk l.prog w (K w.params) mg base CX0 59 fa fd ["_law_script"] (sp_law (K w.params))):
  W.WalkO q Lx XP YP l.row.toRowW d [] (fun f vs=>PySem.call f vs):=
 L2.yz (n:=63) (k:=59) (x:="_law_script") (CX:=fun _=>CX0) (sp:=fun w=>sp_law (K w.params)) hn (by decide) hdf ⟨rfl,by decide,by decide⟩ hY F (fun _ _ a ns hl _ hS=>⟨a,ns,rfl,hS,hl,fun _=>rfl⟩) fun _ _ _ _ _ z=>z
end Mine
open PySem PySem.W PyProof.Rows
namespace PySem.W.Fast
theorem tw13248769599907437185:0=0:=rfl
theorem tw3732143184115517069:0=0:=rfl
theorem tw4330948931767239214:0=0:=rfl
theorem tw13710322779615944418:0=0:=rfl
theorem tw7693665161531304776:0=0:=rfl
theorem tw2151777212880108284:0=0:=rfl
theorem tw17163933818396481316:0=0:=rfl
theorem tw14433358813584092680:0=0:=rfl
theorem tw9820609999321770410:0=0:=rfl
theorem tw3579845729986543385:0=0:=rfl
theorem tw11378408220365321616:0=0:=rfl
theorem tw8505596213983365391:0=0:=rfl
theorem tw15938380521201037950:0=0:=rfl
theorem tw8350124294061632245:0=0:=rfl
theorem tw17743277587155916474:0=0:=rfl
theorem tw4786049039198047745:0=0:=rfl
theorem tw355926940521269068:0=0:=rfl
theorem tw12106138836371278348:0=0:=rfl
theorem tw11348490563644185210:0=0:=rfl
theorem tw17106025677940205720:0=0:=rfl
theorem tw14848823380363075500:0=0:=rfl
theorem tw10249572158958398211:0=0:=rfl
theorem tw17983788789423807254:0=0:=rfl
theorem tw14971862799889142317:0=0:=rfl
theorem tw3500560705947127197:0=0:=rfl
theorem tw4766056827838120953:0=0:=rfl
theorem tw12751148241587693178:0=0:=rfl
theorem tw3904407341528609747:0=0:=rfl
theorem tw9896106048273433296:0=0:=rfl
theorem tw10994607437128594729:0=0:=rfl
theorem tw677431421506781715:0=0:=rfl
theorem tw14094626824427724157:0=0:=rfl
theorem tw11690544227498755448:0=0:=rfl
theorem tw17031240402064653819:0=0:=rfl
theorem tw10865167260712384762:0=0:=rfl
theorem tw5445197378279174067:0=0:=rfl
theorem tw11887346269303200696:0=0:=rfl
theorem tw2134738881524192000:0=0:=rfl
theorem tw5077881196222015065:0=0:=rfl
theorem tw13971172773261484653:0=0:=rfl
theorem tw6027322193988738757:0=0:=rfl
theorem tw13825217459574752261:0=0:=rfl
theorem tw16841424979090335840:0=0:=rfl
theorem tw11453165459584384131:0=0:=rfl
theorem tw12909164309425628430:0=0:=rfl
theorem tw7800772940271495795:0=0:=rfl
theorem tw12614940706375435846:0=0:=rfl
theorem tw10485665097048809737:0=0:=rfl
theorem tw2864320536633887819:0=0:=rfl
theorem tw10143829183034145346:0=0:=rfl
theorem tw234931686390217269:0=0:=rfl
theorem tw7013320462383038109:0=0:=rfl
theorem tw3395020014835144973:0=0:=rfl
theorem tw10650380183224140190:0=0:=rfl
theorem tw16422363924539851985:0=0:=rfl
theorem tw8158497058165854102:0=0:=rfl
theorem tw11087256685181823948:0=0:=rfl
theorem tw1405729451615445169:0=0:=rfl
theorem tw17296963880040545129:0=0:=rfl
theorem tw4322664920543612421:0=0:=rfl
theorem tw1700609250713904159:0=0:=rfl
theorem tw15107958802961121318:0=0:=rfl
theorem tw1147749591970616177:0=0:=rfl
theorem tw10851017540344185599:0=0:=rfl
theorem tw1699528022892820589:0=0:=rfl
theorem tw4573009167800213386:0=0:=rfl
theorem tw15470657656400490407:0=0:=rfl
theorem tw1679987849334476194:0=0:=rfl
theorem tw2433985268578736902:0=0:=rfl
theorem tw6344213249194185876:0=0:=rfl
theorem tw13254694308763128973:0=0:=rfl
theorem tw16893470042284978640:0=0:=rfl
theorem tw17828210095010525309:0=0:=rfl
theorem tw7137172191344172859:0=0:=rfl
theorem tw16650370499576745715:0=0:=rfl
theorem tw5639928279774036363:0=0:=rfl
theorem tw9698797182438366208:0=0:=rfl
theorem tw16202688063748687497:0=0:=rfl
theorem tw9336748072700120614:0=0:=rfl
theorem tw14922670426703171393:0=0:=rfl
theorem tw13350846272250815352:0=0:=rfl
theorem tw16181680623597462797:0=0:=rfl
theorem tw11138965758630498688:0=0:=rfl
theorem tw15372237109485994991:0=0:=rfl
theorem tw13517209932827712650:0=0:=rfl
theorem tw7626597518948084596:0=0:=rfl
theorem tw5604106371571894130:0=0:=rfl
theorem tw16485518002921425906:0=0:=rfl
theorem tw10964980444402392949:0=0:=rfl
theorem tw10148406637841400047:0=0:=rfl
theorem tw7901926333649900996:0=0:=rfl
theorem tw12063226611790174860:0=0:=rfl
theorem tw4405271519282482699:0=0:=rfl
theorem tw15804132383118657127:0=0:=rfl
theorem tw17691209061706531755:0=0:=rfl
theorem tw177611523654938491:0=0:=rfl
theorem tw11996078312655012911:0=0:=rfl
theorem tw3099441545058347764:0=0:=rfl
theorem tw9693663470136910356:0=0:=rfl
theorem tw2111890535168392806:0=0:=rfl
theorem tw13749078208877959442:0=0:=rfl
theorem tw12377472700620836966:0=0:=rfl
theorem tw6199087919493118554:0=0:=rfl
theorem tw2825964763660916790:0=0:=rfl
theorem tw127103144079783654:0=0:=rfl
theorem tw12700682834260351150:0=0:=rfl
theorem tw8525524530175992224:0=0:=rfl
theorem tw10877378110253773316:0=0:=rfl
theorem tw14336506270014301169:0=0:=rfl
theorem tw9889961621766519725:0=0:=rfl
theorem tw11163502444998631398:0=0:=rfl
theorem tw2820652373581427829:0=0:=rfl
theorem tw5395926658022483995:0=0:=rfl
theorem tw5892873161759122155:0=0:=rfl
theorem tw6692282291313723129:0=0:=rfl
theorem tw5760928578295975741:0=0:=rfl
theorem tw7636538087801961918:0=0:=rfl
theorem tw7445489820382197482:0=0:=rfl
theorem tw2146500078824894968:0=0:=rfl
theorem tw2024189606643780881:0=0:=rfl
theorem tw12982571900206104175:0=0:=rfl
theorem tw17428042721379800911:0=0:=rfl
theorem tw5521023268009473062:0=0:=rfl
theorem tw4404176388652476862:0=0:=rfl
theorem tw17051862159637258665:0=0:=rfl
theorem tw12318271658593116374:0=0:=rfl
theorem tw17525837693732135603:0=0:=rfl
theorem tw14354356694134398434:0=0:=rfl
theorem tw10500317495577474173:0=0:=rfl
theorem tw795212062666905745:0=0:=rfl
theorem tw514177215341231408:0=0:=rfl
theorem tw13803411879788848691:0=0:=rfl
theorem tw15615607179683104718:0=0:=rfl
theorem tw5780939246882060648:0=0:=rfl
theorem tw14178885615338691068:0=0:=rfl
theorem tw13914477674914192093:0=0:=rfl
theorem tw5481453836781193982:0=0:=rfl
theorem tw281316955472640741:0=0:=rfl
theorem tw8249720372206552812:0=0:=rfl
theorem tw7101708111982942403:0=0:=rfl
theorem tw1640342099800131679:0=0:=rfl
theorem tw18197128257382835532:0=0:=rfl
theorem tw12125782096027059901:0=0:=rfl
theorem tw11890955846485679597:0=0:=rfl
theorem tw15071486426224801384:0=0:=rfl
theorem tw4583060807370159152:0=0:=rfl
theorem tw4857210396448229224:0=0:=rfl
theorem tw18242212259989606771:0=0:=rfl
theorem tw4173568338807057759:0=0:=rfl
theorem tw9647433673519836375:0=0:=rfl
theorem tw15459397593756127200:0=0:=rfl
theorem tw15520728944793956646:0=0:=rfl
theorem tw679731892184110911:0=0:=rfl
theorem tw13564576833162079553:0=0:=rfl
theorem tw576706086483128539:0=0:=rfl
theorem tw12441154101336952931:0=0:=rfl
theorem tw11779231101482344418:0=0:=rfl
theorem tw17352440047812747440:0=0:=rfl
theorem tw14106070276765128552:0=0:=rfl
theorem tw8642620845937942109:0=0:=rfl
theorem tw16408072456576883028:0=0:=rfl
theorem tw13354314298581257462:0=0:=rfl
theorem tw7468513992366554121:0=0:=rfl
theorem tw4355087674675064110:0=0:=rfl
theorem tw18025225178093772952:0=0:=rfl
theorem tw895357875051522901:0=0:=rfl
theorem tw12658895539976808208:0=0:=rfl
theorem tw6801974610537657264:0=0:=rfl
theorem tw9688927080018158900:0=0:=rfl
theorem tw4887363591275040016:0=0:=rfl
theorem tw8390891293739011237:0=0:=rfl
theorem tw6434205258383930465:0=0:=rfl
theorem tw262553485861798904:0=0:=rfl
theorem tw11966521360381630557:0=0:=rfl
theorem tw18341860421235494483:0=0:=rfl
theorem tw4793527653592229917:0=0:=rfl
theorem tw17813383212624039675:0=0:=rfl
theorem tw13958182947670771501:0=0:=rfl
theorem tw15799526088789688161:0=0:=rfl
theorem tw8673659653080761248:0=0:=rfl
theorem tw16397476752006253184:0=0:=rfl
theorem tw565258197476229516:0=0:=rfl
theorem tw12057963064603873638:0=0:=rfl
theorem tw5229125908527297721:0=0:=rfl
theorem tw1416425396331766950:0=0:=rfl
theorem tw11285252480385464723:0=0:=rfl
theorem tw9144007854025672735:0=0:=rfl
theorem tw2557443704190143780:0=0:=rfl
theorem tw10317628761007783417:0=0:=rfl
theorem tw2487345337516327828:0=0:=rfl
theorem tw11368022223973741480:0=0:=rfl
theorem tw3732037912154558204:0=0:=rfl
theorem tw1275415458426048694:0=0:=rfl
theorem tw6870721561523334026:0=0:=rfl
theorem tw5019370009033253319:0=0:=rfl
theorem tw13681613754518787773:0=0:=rfl
theorem tw13204735737812933735:0=0:=rfl
theorem tw14410643193649808309:0=0:=rfl
theorem tw9237401574509502402:0=0:=rfl
theorem tw7732759697689661900:0=0:=rfl
theorem tw7832787815122908550:0=0:=rfl
theorem tw11301956110656012384:0=0:=rfl
theorem tw5134931626567948876:0=0:=rfl
theorem tw8927939048573174281:0=0:=rfl
theorem tw12793455133673504835:0=0:=rfl
theorem tw9651834246662628056:0=0:=rfl
theorem tw15401019522934839430:0=0:=rfl
theorem tw9281832894616743308:0=0:=rfl
theorem tw17291266830753585553:0=0:=rfl
theorem tw9249167080344084489:0=0:=rfl
theorem tw9747389723860053683:0=0:=rfl
theorem tw13536454496150320717:0=0:=rfl
theorem tw17079372848830669708:0=0:=rfl
theorem tw2912869742767357350:0=0:=rfl
theorem tw13006882669245384440:0=0:=rfl
theorem tw5601374820088124667:0=0:=rfl
theorem tw11852131133690775692:0=0:=rfl
theorem tw518150929452348880:0=0:=rfl
theorem tw12255026776195687884:0=0:=rfl
theorem tw10746099110704809038:0=0:=rfl
theorem tw17043267033211777247:0=0:=rfl
theorem tw6002171717096200663:0=0:=rfl
theorem tw2591395439980089949:0=0:=rfl
theorem tw16610649669837496451:0=0:=rfl
theorem tw10172840942347346940:0=0:=rfl
theorem tw7946996312375596367:0=0:=rfl
theorem tw1610531165258202345:0=0:=rfl
theorem tw15905856404212727761:0=0:=rfl
theorem tw5822363288399340033:0=0:=rfl
theorem tw15702691989789138064:0=0:=rfl
theorem tw5470299404904479335:0=0:=rfl
theorem tw16019139429033984494:0=0:=rfl
theorem tw8564161201066490250:0=0:=rfl
theorem tw7274390377642129111:0=0:=rfl
theorem tw5290099660077137564:0=0:=rfl
theorem tw16449764980270594206:0=0:=rfl
theorem tw12673060620460202962:0=0:=rfl
theorem tw12131046633564237948:0=0:=rfl
theorem tw13590931903979961433:0=0:=rfl
theorem tw3217051711597410376:0=0:=rfl
theorem tw10178723172078768962:0=0:=rfl
theorem tw14013738921916131790:0=0:=rfl
theorem tw2270379696999893879:0=0:=rfl
theorem tw11173029988955678037:0=0:=rfl
theorem tw9096510016052973844:0=0:=rfl
theorem tw10199806316286560421:0=0:=rfl
theorem tw17863941384541195000:0=0:=rfl
theorem tw17383174140668225200:0=0:=rfl
theorem tw6625355299547766693:0=0:=rfl
theorem tw11527697319569137394:0=0:=rfl
theorem tw5115269488654039041:0=0:=rfl
theorem tw3736902729682131055:0=0:=rfl
theorem tw12365731323656402032:0=0:=rfl
theorem tw18312224223108305481:0=0:=rfl
theorem tw213088925933488056:0=0:=rfl
theorem tw5399375615224184568:0=0:=rfl
theorem tw10559702228416479545:0=0:=rfl
theorem tw16762062830743582230:0=0:=rfl
theorem tw1537655310100863552:0=0:=rfl
theorem tw4362835090879251661:0=0:=rfl
theorem tw8168390268097984684:0=0:=rfl
theorem tw6358339891685630599:0=0:=rfl
theorem tw5987829878899020477:0=0:=rfl
theorem tw18113423815675733313:0=0:=rfl
theorem tw18194726488918729745:0=0:=rfl
theorem tw7512459747929628043:0=0:=rfl
theorem tw14146371819304342632:0=0:=rfl
theorem tw1332700597353175074:0=0:=rfl
theorem tw11536261239379631786:0=0:=rfl
theorem tw14495483477847996618:0=0:=rfl
theorem tw16214644473510381942:0=0:=rfl
theorem tw17057591769483275883:0=0:=rfl
theorem tw18256425777925594863:0=0:=rfl
theorem tw3916854337266997878:0=0:=rfl
theorem tw13511454312682473532:0=0:=rfl
theorem tw4710791163878141216:0=0:=rfl
theorem tw10855573499471342279:0=0:=rfl
theorem tw1611327390076602186:0=0:=rfl
theorem tw15590904995023020201:0=0:=rfl
theorem tw10775000292019261026:0=0:=rfl
theorem tw15013538415105924441:0=0:=rfl
theorem tw7742389929685799296:0=0:=rfl
theorem tw14227305647946445642:0=0:=rfl
theorem tw8630536466314076068:0=0:=rfl
theorem tw7488661346606497754:0=0:=rfl
theorem tw3005983947664264216:0=0:=rfl
theorem tw6827604526144138065:0=0:=rfl
theorem tw17175421437779706257:0=0:=rfl
theorem tw2597024087933736995:0=0:=rfl
theorem tw701647453551384650:0=0:=rfl
theorem tw10052251913245388394:0=0:=rfl
theorem tw2518001154309763866:0=0:=rfl
theorem tw9009571096662610944:0=0:=rfl
theorem tw14941974119299777136:0=0:=rfl
theorem tw11594762926117742990:0=0:=rfl
theorem tw13014991158163703765:0=0:=rfl
theorem tw8930828532506511005:0=0:=rfl
theorem tw8088028968452778941:0=0:=rfl
theorem tw14940595460038217430:0=0:=rfl
theorem tw13363537112919861566:0=0:=rfl
theorem tw8743789155079486670:0=0:=rfl
theorem tw7599788110573257226:0=0:=rfl
theorem tw8211765027964376399:0=0:=rfl
theorem tw8089058914869210816:0=0:=rfl
theorem tw9696986097006982782:0=0:=rfl
theorem tw10921351350778721080:0=0:=rfl
theorem tw10228671608475758817:0=0:=rfl
theorem tw5230933496856159565:0=0:=rfl
theorem tw12904756594996250008:0=0:=rfl
theorem tw12442030230598209032:0=0:=rfl
theorem tw8222264866795646866:0=0:=rfl
theorem tw15266825171972863595:0=0:=rfl
theorem tw4862126419443194335:0=0:=rfl
theorem tw2015698482219902042:0=0:=rfl
theorem tw11861895060757918596:0=0:=rfl
theorem tw567328492331786575:0=0:=rfl
theorem tw14741722065843564051:0=0:=rfl
theorem tw2803912090626975885:0=0:=rfl
theorem tw6118265243122688023:0=0:=rfl
theorem tw15998872312849469737:0=0:=rfl
theorem tw5594705036416859946:0=0:=rfl
theorem tw15773882205515214561:0=0:=rfl
theorem tw16571531515222121969:0=0:=rfl
theorem tw5985405327563824254:0=0:=rfl
theorem tw16071861869450941248:0=0:=rfl
theorem tw10854909087235051101:0=0:=rfl
theorem tw17609689877794775889:0=0:=rfl
theorem tw7974203747159928360:0=0:=rfl
theorem tw13027220032933214747:0=0:=rfl
theorem tw10522350886101813697:0=0:=rfl
theorem tw15783293763870071267:0=0:=rfl
theorem tw4606708190950442755:0=0:=rfl
theorem tw4125359520376255169:0=0:=rfl
theorem tw17327745703276058381:0=0:=rfl
theorem tw13433606015558783000:0=0:=rfl
theorem tw9036571932125710887:0=0:=rfl
theorem tw12709358350776480389:0=0:=rfl
theorem tw14707333877642447425:0=0:=rfl
theorem tw12263050745422328342:0=0:=rfl
theorem tw6755213399271948864:0=0:=rfl
theorem tw119772025314578203:0=0:=rfl
theorem tw5565926834413970671:0=0:=rfl
theorem tw7085445977377688073:0=0:=rfl
theorem tw15607588168610104171:0=0:=rfl
theorem tw10652586797843971562:0=0:=rfl
theorem tw2839920495682729931:0=0:=rfl
theorem tw6407871199992973412:0=0:=rfl
theorem tw11252156123607794150:0=0:=rfl
theorem tw14644805866700753009:0=0:=rfl
theorem tw4934238774330468692:0=0:=rfl
theorem tw2718106285970467123:0=0:=rfl
theorem tw10855057495929435145:0=0:=rfl
theorem tw3211460664641606380:0=0:=rfl
theorem tw11553151617205978484:0=0:=rfl
theorem tw5436843996053189069:0=0:=rfl
theorem tw9059466275099308338:0=0:=rfl
theorem tw11806900473608369691:0=0:=rfl
theorem tw10073482465716628476:0=0:=rfl
theorem tw6083927815304388569:0=0:=rfl
theorem tw17595933662186925433:0=0:=rfl
theorem tw15575789211192385519:0=0:=rfl
theorem tw11858312165114128463:0=0:=rfl
theorem tw8264638516644273368:0=0:=rfl
theorem tw13223388726163932172:0=0:=rfl
theorem tw2293064242789764003:0=0:=rfl
theorem tw11742754712364825387:0=0:=rfl
theorem tw18196157197190149337:0=0:=rfl
theorem tw761353901700484984:0=0:=rfl
theorem tw9369045717617141389:0=0:=rfl
theorem tw4413461187279995788:0=0:=rfl
theorem tw5885736454595106305:0=0:=rfl
theorem tw9148317409144200170:0=0:=rfl
theorem tw11544705319534757997:0=0:=rfl
theorem tw3634527398903618665:0=0:=rfl
theorem tw9960817976745430262:0=0:=rfl
theorem tw12692030801318690953:0=0:=rfl
theorem tw7819770270229307782:0=0:=rfl
theorem tw1811185502073742128:0=0:=rfl
theorem tw6324577208669185275:0=0:=rfl
theorem tw4249838551890279901:0=0:=rfl
theorem tw6964661021228286048:0=0:=rfl
theorem tw14405367149522035989:0=0:=rfl
theorem tw12601800387312207944:0=0:=rfl
theorem tw14519042535468097995:0=0:=rfl
theorem tw7682488509377816039:0=0:=rfl
theorem tw8700496412434818047:0=0:=rfl
theorem tw16882302478127067150:0=0:=rfl
theorem tw16990584160622566628:0=0:=rfl
theorem tw5974516737037158687:0=0:=rfl
theorem tw17105369485624701061:0=0:=rfl
theorem tw14739413643232609517:0=0:=rfl
theorem tw14724045918658476638:0=0:=rfl
theorem tw14492044573580657920:0=0:=rfl
theorem tw1357213744701006913:0=0:=rfl
theorem tw16232567707477797284:0=0:=rfl
theorem tw1284258576269340891:0=0:=rfl
theorem tw15169293162288420348:0=0:=rfl
theorem tw3256160052149323667:0=0:=rfl
theorem tw325627908812861920:0=0:=rfl
theorem tw7319377498616300291:0=0:=rfl
theorem tw4537888947086555269:0=0:=rfl
theorem tw8957470948833685587:0=0:=rfl
theorem tw3250081090573568934:0=0:=rfl
theorem tw7975153509648221146:0=0:=rfl
theorem tw7193976502968308782:0=0:=rfl
theorem tw6281552320686120531:0=0:=rfl
theorem tw6580421730030585195:0=0:=rfl
theorem tw18297919537758137004:0=0:=rfl
theorem tw17686319466220147399:0=0:=rfl
theorem tw15652812273239301776:0=0:=rfl
theorem tw17813631463691208186:0=0:=rfl
theorem tw5689074710496873736:0=0:=rfl
theorem tw2127265546504236137:0=0:=rfl
theorem tw1465341739571922478:0=0:=rfl
theorem tw10999738873672927199:0=0:=rfl
theorem tw17979236405662813533:0=0:=rfl
theorem tw9305926797369092086:0=0:=rfl
theorem tw9264628925876652441:0=0:=rfl
theorem tw16329354980521789608:0=0:=rfl
theorem tw5812453901691162885:0=0:=rfl
theorem tw5588947894194344183:0=0:=rfl
theorem tw2311084968125545311:0=0:=rfl
theorem tw13322567692907525031:0=0:=rfl
theorem tw9320641919538215602:0=0:=rfl
theorem tw1314158928886177040:0=0:=rfl
theorem tw3745322073900052289:0=0:=rfl
theorem tw10108242746167070238:0=0:=rfl
theorem tw2700305343684558640:0=0:=rfl
theorem tw14562583657445215051:0=0:=rfl
theorem tw10229183049374193425:0=0:=rfl
theorem tw4028384973370844693:0=0:=rfl
theorem tw4152225987021045064:0=0:=rfl
theorem tw12948450408826267691:0=0:=rfl
theorem tw5407305609999316541:0=0:=rfl
theorem tw17553058271928054247:0=0:=rfl
theorem tw5383149292395487244:0=0:=rfl
theorem tw7777217513898523201:0=0:=rfl
theorem tw15082130937002969722:0=0:=rfl
theorem tw8241811403337148875:0=0:=rfl
theorem tw5094385174230326206:0=0:=rfl
theorem tw12277971101003402106:0=0:=rfl
theorem tw2166760097289072344:0=0:=rfl
theorem tw17952348169667427946:0=0:=rfl
theorem tw9381287666493430322:0=0:=rfl
theorem tw3328752774017495215:0=0:=rfl
theorem tw435222131627181961:0=0:=rfl
theorem tw18052780279019870225:0=0:=rfl
theorem tw13732539145391317094:0=0:=rfl
theorem tw4552031117752878882:0=0:=rfl
theorem tw5310194170870873560:0=0:=rfl
theorem tw1288913902177170388:0=0:=rfl
theorem tw3958339967822339574:0=0:=rfl
theorem tw8757933799704680827:0=0:=rfl
theorem tw15335932416830465263:0=0:=rfl
theorem tw4192369598946458925:0=0:=rfl
theorem tw700395609198676149:0=0:=rfl
theorem tw2427851096280089094:0=0:=rfl
theorem tw10214177381238330240:0=0:=rfl
theorem tw1088950495490789278:0=0:=rfl
theorem tw18033934762260730503:0=0:=rfl
theorem tw17091789295142040010:0=0:=rfl
theorem tw12727489548511148081:0=0:=rfl
theorem tw735840028632500310:0=0:=rfl
theorem tw17292093094202432914:0=0:=rfl
theorem tw17717811958797842029:0=0:=rfl
theorem tw4335448314682327609:0=0:=rfl
theorem tw8598433529307271671:0=0:=rfl
theorem tw274685750055748311:0=0:=rfl
theorem tw7317746714019308629:0=0:=rfl
theorem tw3333282232749973517:0=0:=rfl
theorem tw7497376025200042214:0=0:=rfl
theorem tw14406892282320843483:0=0:=rfl
theorem tw14271593184265036470:0=0:=rfl
theorem tw6715873940490985703:0=0:=rfl
theorem tw6200636832174224396:0=0:=rfl
end PySem.W.Fast
set_option maxRecDepth 100000 in
set_option maxHeartbeats 0 in
theorem PySem.Challenge.cw_floorcurves_k90_whole_four_roads_holds : PySem.Challenge.rw_floorcurves_k90_whole_four_roads.Holds := by
 w_on; o_law; k_head; (case hw => w_witness2)
 k_fill
 refine Mine.walk (l := PySem.Challenge.rw_floorcurves_k90_whole_four_roads) rfl rfl (fun w h Y => PySem.W.kIn_of Y) ?F
 case F =>
  intro w mg fa h KX G hmg
  refine' Mine.J0 KX G hmg ?h0 ?h1 ?h2 ?h3 ?h4 ?h5 ?h6 ?h7 ?h8 ?h9 ?h10 ?h11 ?h12 ?h13 ?h14 ?h15 ?h16 ?h17 ?h18 ?h19 ?h20 ?h21 ?h22 ?h23 ?h24 ?h25 ?h26 ?h27 ?h28 ?h29 ?h30 ?h31 ?h32 ?h33 ?h34 ?h35 ?h36 ?h37 ?h38 ?h39 ?h40 ?h41 ?h42 ?h43 ?h44 ?h45 ?h46 ?h47 ?h48 ?h49 ?h50 ?h51 ?h52 ?h53 ?h54 ?h55 ?h56 ?h57 ?h58 ?h59 ?h60 ?h61 ?h62 ?h63 ?h64 ?h65 ?h66 ?h67 ?h68 ?h69 ?zz ?mi_LEFT ?mi_RIGHT ?da_NARROW ?dt_NARROW ?da_WIDE ?dt_WIDE ?ca_NoBound ?ca_NoDrawing ?ca_NoEnds ?cx_NoBound ?xc_NoBound ?cx_NoDrawing ?xc_NoDrawing ?cx_NoEnds ?xc_NoEnds
  (case h0 | h1 | h2 | h3 | h4 | h5 | h6 | h7 | h8 | h9 | h10 | h11 | h12 | h13 | h14 | h15 | h16 | h17 | h18 | h19 | h20 | h21 | h22 | h23 | h24 | h25 | h26 | h27 | h28 | h29 | h30 | h31 | h32 | h33 | h34 | h35 | h36 | h37 | h38 | h39 | h40 | h41 | h42 | h43 | h44 | h45 | h46 | h47 | h48 | h49 | h50 | h51 | h52 | h53 | h54 | h55 | h56 | h57 | h58 | h59 | h60 | h61 | h62 | h63 | h64 | h65 | h66 | h67 | h68 | h69 => refine' Mine.JZ ?a ?l ?c ?k; (case a => k_is); (case l => k_is); (case c => k_is); (case k => k_is))
  (case zz => intro n hn; simp only [List.mem_cons, List.not_mem_nil, or_false] at hn; rcases hn with rfl | rfl | rfl | rfl | rfl | rfl | rfl | rfl | rfl | rfl | rfl | rfl | rfl | rfl | rfl | rfl | rfl <;> k_is)
  (case mi_LEFT | mi_RIGHT | da_NARROW | da_WIDE => k_is)
  (case dt_NARROW | dt_WIDE => first | k_is | kit_is | kts_exm | kernel_rfl)
  (case ca_NoBound | ca_NoDrawing | ca_NoEnds | cx_NoBound | cx_NoDrawing | cx_NoEnds => first | k_is | kit_is | kts_exm | kernel_rfl)
  (case xc_NoBound | xc_NoDrawing | xc_NoEnds => constructor <;> first | k_is | kit_is | kts_exm | kernel_rfl)
