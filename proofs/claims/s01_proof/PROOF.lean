import PyProof.Rows.All
import Wide.All
import OpenK.AllK
import Wide.FinOn
import PyProof.EqAt
import PyProof.EqKinds
import PyProof.TupleCall
import KE.BitLaws
import KE.KTryMore
import KE.KDictList
import PyProof.Draws
import VbpoanSpec
import PyVbpoan
import PySem.Challenge.RW0_postdistricts_s01_answers
import PySem.Challenge.RW_postdistricts_s01_answers
import KE.KEqDeep
import PyProof.ZipIter
import KE.KItemsList
import Open.SpecLaws
import KE.OsHead
import KE.OsGo
set_option compiler.extract_closed false
set_option Elab.async false
set_option linter.all false
set_option maxRecDepth 100000
set_option maxHeartbeats 2000000
section
namespace L2
open PySem PySem.Spec PyProof.Rows
abbrev Key:=Sum Int Str
def keyIs:Key→Value→Bool
 | .inl k,v=>Value.isInt k v
 | .inr x,v=>Value.isStrOf x v
def keyH (w:World):Key→Int
 | .inl k=>hashInt k
 | .inr x=>hashStr w x
theorem zb1:∀{k:Key} {v:Value},keyIs k v=true→(∃i t,k=Sum.inl i∧v=Value.int i t)∨(∃x t,k=Sum.inr x∧v=Value.str x t)
 | .inl i,v,h=>by
  obtain⟨t,e⟩:=Value.isInt_shape (k:=i) (v:=v) h
  exact .inl ⟨i,t,rfl,e⟩
 | .inr x,v,h=>by
  obtain⟨t,e⟩:=Value.isStrOf_shape (x:=x) (v:=v) h
  exact .inr ⟨x,t,rfl,e⟩
theorem zob (i:Int) (t:Tok):keyIs (.inl i) (.int i t)=true:=by simp[keyIs,Value.isInt]
theorem zoa (x:Str) (t:Tok):keyIs (.inr x) (.str x t)=true:=by simp[keyIs,Value.isStrOf]
theorem zkQ (a b:Int):decide ((Sum.inl a:Key)=Sum.inl b)=(a == b):=by
 by_cases e:a=b
 ·subst e;simp
 ·have h:¬ (Sum.inl a:Key)=Sum.inl b:=λq=>e (Sum.inl.inj q)
  rw[decide_eq_false h]
  exact(beq_eq_false_iff_ne.mpr e).symm
theorem zpZ (a b:Str):decide ((Sum.inr a:Key)=Sum.inr b)=decide (a=b):=by
 by_cases e:a=b
 ·subst e;simp
 ·have h:¬ (Sum.inr a:Key)=Sum.inr b:=λq=>e (Sum.inr.inj q)
  rw[decide_eq_false h,decide_eq_false e]
theorem zo9 (a:Int) (b:Str):decide ((Sum.inl a:Key)=Sum.inr b)=false:=decide_eq_false (λq=>nomatch q)
theorem zo8 (a:Str) (b:Int):decide ((Sum.inr a:Key)=Sum.inl b)=false:=decide_eq_false (λq=>nomatch q)
def mixKind (prog:Program) (w:World):PySem.KeyKind prog w Key where
 is:=keyIs
 hash:=keyH w
 inj:=λv a b ha hb=>by
  rcases zb1 ha with ⟨i,t,rfl,rfl⟩|⟨x,t,rfl,rfl⟩
  ·rcases zb1 hb with ⟨j,u,rfl,e⟩|⟨y,u,rfl,e⟩
   ·injection e with e1 _;rw[e1]
   ·exact nomatch e
  ·rcases zb1 hb with ⟨j,u,rfl,e⟩|⟨y,u,rfl,e⟩
   ·exact nomatch e
   ·injection e with e1 _;rw[e1]
 byValue:=λk v h=>by
  rcases zb1 h with ⟨i,t,rfl,rfl⟩|⟨x,t,rfl,rfl⟩<;>rfl
 pyHash:=λhv h=>by
  rcases zb1 hv with ⟨i,t,rfl,rfl⟩|⟨x,t,rfl,rfl⟩
  ·exact wpAny_pyHash_int h
  ·exact wpAny_pyHash_str h
 eqBool:=λhu hv h=>by
  rcases zb1 hu with ⟨i,t,rfl,rfl⟩|⟨x,t,rfl,rfl⟩
  ·rcases zb1 hv with ⟨j,u,rfl,rfl⟩|⟨y,u,rfl,rfl⟩
   ·rw[zkQ] at h;exact wpAny_eqBool_int h
   ·rw[zo9] at h;exact SeqAt.EqAt.int_str i t y u _ _ _ _ h
  ·rcases zb1 hv with ⟨j,u,rfl,rfl⟩|⟨y,u,rfl,rfl⟩
   ·rw[zo8] at h;exact SeqAt.EqAt.str_int x t j u _ _ _ _ h
   ·rw[zpZ] at h;exact wpAny_eqBool_str h
 «strs»:=λk x t v h=>by
  rcases zb1 h with ⟨i,u,rfl,e⟩|⟨y,u,rfl,e⟩
  ·exact nomatch e
  ·injection e with e1 _
   subst e1
   cases v<;>rfl
def boolK (b:Bool):Int:=if b then 1 else 0
def keyB:Key→Value→Bool
 | .inl k,v=>Value.isInt k v || (match v with|.bool b=>decide (k=boolK b)|_=>false)
 | .inr x,v=>Value.isStrOf x v
theorem zb6:∀{k:Key} {v:Value},keyB k v=true→(∃i t,k=Sum.inl i∧v=Value.int i t)∨(∃x t,k=Sum.inr x∧v=Value.str x t)∨(∃b,k=Sum.inl (boolK b)∧v=Value.bool b)
 | .inl i,v,h=>by
  unfold keyB at h
  rcases Bool.or_eq_true_iff.mp h with q|q
  ·obtain⟨t,e⟩:=Value.isInt_shape (k:=i) (v:=v) q
   exact .inl ⟨i,t,rfl,e⟩
  ·cases v with
   | bool b=>exact .inr (.inr ⟨b,congrArg Sum.inl (of_decide_eq_true q),rfl⟩)
   | _=>cases q
 | .inr x,v,h=>by
  obtain⟨t,e⟩:=Value.isStrOf_shape (x:=x) (v:=v) h
  exact .inr (.inl ⟨x,t,rfl,e⟩)
theorem zpC (i:Int) (t:Tok):keyB (.inl i) (.int i t)=true:=by simp[keyB,Value.isInt]
theorem zpB (x:Str) (t:Tok):keyB (.inr x) (.str x t)=true:=by simp[keyB,Value.isStrOf]
theorem zoc (b:Bool):keyB (.inl (boolK b)) (.bool b)=true:=by simp[keyB]
theorem zpR (b c:Bool):(boolK b == boolK c)=(b == c):=by cases b<;>cases c<;>rfl
def bixKind (prog:Program) (w:World):PySem.KeyKind prog w Key where
 is:=keyB
 hash:=keyH w
 inj:=λv a b ha hb=>by
  rcases zb6 ha with ⟨i,t,rfl,rfl⟩|⟨x,t,rfl,rfl⟩|⟨b1,rfl,rfl⟩
  ·rcases zb6 hb with ⟨j,u,rfl,e⟩|⟨y,u,rfl,e⟩|⟨b2,rfl,e⟩
   ·injection e with e1 _;rw[e1]
   ·exact nomatch e
   ·exact nomatch e
  ·rcases zb6 hb with ⟨j,u,rfl,e⟩|⟨y,u,rfl,e⟩|⟨b2,rfl,e⟩
   ·exact nomatch e
   ·injection e with e1 _;rw[e1]
   ·exact nomatch e
  ·rcases zb6 hb with ⟨j,u,rfl,e⟩|⟨y,u,rfl,e⟩|⟨b2,rfl,e⟩
   ·exact nomatch e
   ·exact nomatch e
   ·injection e with e1;rw[e1]
 byValue:=λk v h=>by
  rcases zb6 h with ⟨i,t,rfl,rfl⟩|⟨x,t,rfl,rfl⟩|⟨b,rfl,rfl⟩<;>rfl
 pyHash:=λhv h=>by
  rcases zb6 hv with ⟨i,t,rfl,rfl⟩|⟨x,t,rfl,rfl⟩|⟨b,rfl,rfl⟩
  ·exact wpAny_pyHash_int h
  ·exact wpAny_pyHash_str h
  ·refine PySem.W.pyHash_slot (T:="bool") rfl F.slot_bool_hash entry_int_hash (args_int_hash _) (beq_builtin_none _) (.inl rfl) ?_
   cases b
   ·exact(show wpAny _ _ (do ret (←mkInt 0)) _ _ _ from wpAny_bind (wpAny_mkInt (wpAny_pure ⟨_,_,rfl,h⟩)))
   ·exact(show wpAny _ _ (do ret (←mkInt 1)) _ _ _ from wpAny_bind (wpAny_mkInt (wpAny_pure ⟨_,_,rfl,h⟩)))
 eqBool:=λhu hv h=>by
  rcases zb6 hu with ⟨i,t,rfl,rfl⟩|⟨x,t,rfl,rfl⟩|⟨b,rfl,rfl⟩
  ·rcases zb6 hv with ⟨j,u,rfl,rfl⟩|⟨y,u,rfl,rfl⟩|⟨c,rfl,rfl⟩
   ·rw[zkQ] at h;exact wpAny_eqBool_int h
   ·rw[zo9] at h;exact SeqAt.EqAt.int_str i t y u _ _ _ _ h
   ·rw[zkQ] at h;exact SeqAt.EqAt.int_bool i t c _ _ _ _ h
  ·rcases zb6 hv with ⟨j,u,rfl,rfl⟩|⟨y,u,rfl,rfl⟩|⟨c,rfl,rfl⟩
   ·rw[zo8] at h;exact SeqAt.EqAt.str_int x t j u _ _ _ _ h
   ·rw[zpZ] at h;exact wpAny_eqBool_str h
   ·rw[zo8] at h;exact SeqAt.EqAt.str_bool x t c _ _ _ _ h
  ·rcases zb6 hv with ⟨j,u,rfl,rfl⟩|⟨y,u,rfl,rfl⟩|⟨c,rfl,rfl⟩
   ·rw[zkQ] at h;exact SeqAt.EqAt.bool_int b j u _ _ _ _ h
   ·rw[zo9] at h;exact SeqAt.EqAt.bool_str b y u _ _ _ _ h
   ·rw[zkQ,zpR] at h;exact SeqAt.EqAt.bool_bool b c _ _ _ _ h
 «strs»:=λk x t v h=>by
  rcases zb6 h with ⟨i,u,rfl,e⟩|⟨y,u,rfl,e⟩|⟨b,rfl,e⟩
  ·exact nomatch e
  ·injection e with e1 _
   subst e1
   cases v<;>rfl
  ·exact nomatch e
theorem zlF (prog:Program) (w:World) (i:Int) (t:Tok):(mixKind prog w).is (.inl i) (.int i t)=true:=zob i t
theorem zlE (prog:Program) (w:World) (x:Str) (t:Tok):(mixKind prog w).is (.inr x) (.str x t)=true:=zoa x t
end L2
namespace L2
open PySem PySem.Spec PyProof.Rows
inductive V where
 | non|bl (b:Bool)|int (i:Int)|str (x:Str)|byt (b:Array UInt8)|flt (b:UInt64)|ref (a:Addr)|ty (n:String)
 deriving DecidableEq
def RelV:V→Value→Prop
 | .non,u=>u=Value.none
 | .bl b,u=>u=Value.bool b
 | .int i,u=>∃t,u=Value.int i t
 | .str x,u=>∃t,u=Value.str x t
 | .byt b,u=>∃t,u=Value.bytes b t
 | .flt b,u=>∃t,u=Value.float b t
 | .ref a,u=>u=Value.ref a
 | .ty n,u=>u=Value.type n
abbrev Vals:List V→List Value→Prop:=Paired RelV
theorem Vals.length {xs:List V} {us:List Value} (r:Vals xs us):xs.length=us.length:=Paired.length r
theorem Vals.get:∀{xs:List V} {us:List Value} {i:Nat} {x:V},Vals xs us→xs[i]?=some x→∃u,us[i]?=some u∧RelV x u
 | _,_,_,_,.nil,e=>by simp at e
 | _,_,0,_,.cons r _,e=>by simp at e;subst e;exact⟨_,rfl,r⟩
 | _,_,i+1,x,.cons _ t,e=>by
  obtain⟨u,h1,h2⟩:=Vals.get (i:=i) (x:=x) t (by simpa using e)
  exact⟨u,by simpa using h1,h2⟩
theorem Vals.set {x:V} {u:Value} (r:RelV x u):∀{xs:List V} {us:List Value} (i:Nat),Vals xs us→Vals (xs.set i x) (us.set i u)
 | _,_,_,.nil=>.nil
 | _,_,0,.cons _ t=>.cons r t
 | _,_,i+1,.cons q t=>.cons q (Vals.set r i t)
theorem Vals.append:∀{xs ys:List V} {us ws:List Value},Vals xs us→Vals ys ws→Vals (xs++ys) (us++ws)
 | _,_,_,_,.nil,s=>s
 | _,_,_,_,.cons r t,s=>.cons r (Vals.append t s)
theorem Vals.take:∀{xs:List V} {us:List Value} (n:Nat),Vals xs us→Vals (xs.take n) (us.take n)
 | _,_,0,_=>.nil
 | _,_,_+1,.nil=>.nil
 | _,_,n+1,.cons r t=>.cons r (Vals.take n t)
theorem Vals.drop:∀{xs:List V} {us:List Value} (n:Nat),Vals xs us→Vals (xs.drop n) (us.drop n)
 | _,_,0,r=>r
 | _,_,_+1,.nil=>.nil
 | _,_,n+1,.cons _ t=>Vals.drop n t
def RelO:Option V→Option Value→Prop
 | some v,some u=>RelV v u
 | none,none=>True
 | _,_=>False
def KV {κ:Type}:List (κ×V)→List (κ×Value)→Prop:=Paired λ(p:κ×V) (q:κ×Value)=>p.1=q.1∧RelV p.2 q.2
def kV:Key→V
 | .inl i=>.int i
 | .inr x=>.str x
inductive HO where
  | lst (xs:List V)
  | tup (xs:List V)
  | dK (kvs:List (Key×V))|dT (kvs:List (List Key×V))
  | set (S:Int→Bool) (n:Nat)
  | ins (C dx:Addr) (fs:List (Str×V))
  | own (x:Addr)
  | xd (fs:List (Str×V))
  | met (f x:Addr)
  | rng (lo hi:Int)
  | frz (o:Obj) (u:HO)
  | tbl (ps:Array Value)
  | ext (φ:Heap→Prop)
abbrev Hp:=Addr→Option HO
def IsK (k:Key) (v:V):Prop:=v=kV k∨∃b,v=.bl b∧k=.inl (boolK b)
def TK (H:Hp) (b:Addr) (ks:List Key):Prop:=∃ys,H b=some (.tup ys)∧Paired IsK ks ys
theorem TK.keeps {H H':Hp} {b:Addr} {ks:List Key} (h:TK H b ks) (k:∀b ys,H b=some (.tup ys)→H' b=some (.tup ys)):TK H' b ks:=let ⟨ys,e,p⟩:=h;⟨ys,k _ _ e,p⟩
def upd (H:Hp) (a:Addr) (o:HO):Hp:=λb=>if b=a then some o else H b
theorem za1 {H:Hp} {a:Addr} {o:HO}:upd H a o a=some o:=by unfold upd;rw[if_pos rfl]
theorem za6 {H:Hp} {a b:Addr} {o:HO} (h:b≠a):upd H a o b=H b:=by unfold upd;rw[if_neg h]
theorem zeJ {H:Hp} {a:Addr} {o u:HO}:upd (upd H a o) a u=upd H a u:=by
 funext b;unfold upd;split<;>rfl
theorem ne_of {H:Hp} {a b:Addr} {o u:HO} (h:H a=some o) (h':H b=some u) (d:o≠u):a≠b:=by
 intro e;subst e;rw[h] at h';exact d (Option.some.inj h')
theorem za7 {H:Hp} {a b:Addr} {o:HO} (h:H a=some o) (h':H b=none):a≠b:=by
 intro e;subst e;rw[h] at h';cases h'
section
variable (P:Program) (w:World)
def ObjOk (H:Hp) (h:Heap) (a:Addr):HO→Prop
 | .lst xs=>xs.length≤sizeLine∧∃(its:List Value) (n:Nat),Vals xs its∧h.get? a=some { cls:=.type "list",data:=.seq its.toArray n }
 | .tup xs=>xs.length≤sizeLine∧∃its:List Value,Vals xs its∧IsTup h a its.toArray
 | .dK kvs=>kvs.length≤sizeLine∧(a == sysModules)=false∧∃vs,KV kvs vs∧h.DictOf (mixKind P w) a vs
 | .dT kvs=>kvs.length≤sizeLine∧(a == sysModules)=false∧∃xs:List (List Key×Addr×Value),
   Paired (λ(p:List Key×V) (q:List Key×Addr×Value)=>p.1=q.1∧TK H q.2.1 p.1∧RelV p.2 q.2.2) kvs xs∧
   ∃o es ep,h.get? a=some o∧o.ExactDict∧o.data=.dict es ep∧es.toList=xs.map (entryOfKey (tupleKind (bixKind P w)))∧(xs.map (·.1)).Nodup
 | .set S n=>h.SetOf (intKind P w) a S n
 | .ins C dx fs=>H dx=some (.own a)∧fs.length≤1000∧dx≠a∧h.get? a=some (PySem.W.instObj C dx)∧
   ∃mA,h.Ns1 dx mA∧(∀f,RelO (fs.lookup f) (mA f))∧PySem.Within mA (fs.map (·.1))
 | .own _=>∃o,h.get? a=some o
 | .xd fs=>∃mA,h.Ns1 a mA∧∀f,RelO (fs.lookup f) (mA f)
 | .rng lo hi=>∃t u v,h.get? a=some { cls:=.type "range",data:=.fields #[.int lo t,.int hi u,.int 1 v] }
 | .frz o u=>h.get? a=some o∧ObjOk H h a u
 | .tbl ps=>h.get? a=some { cls:=.none,data:=.fields ps }
 | .met f x=>h.get? a=some (PySem.W.methodObj (.ref f) (.ref x))
 | .ext φ=>φ h∧(∃o,h.get? a=some o)∧∀h1 h2:Heap,φ h1→(∀o,h1.get? a=some o→h2.get? a=some o)→φ h2
def HOk (H:Hp) (h:Heap):Prop:=∀a o,H a=some o→ObjOk P w H h a o
end
section
variable {P:Program} {w:World} {H H':Hp} {h h':Heap} {a:Addr} {o:HO}
theorem ObjOk.lt (x:ObjOk P w H h a o):a < h.objs.size:=by
 cases o with
 | lst xs=>obtain⟨_,_,_,_,e⟩:=x;exact Heap.lt_size e
 | tup xs=>obtain⟨_,_,_,p⟩:=x;exact p.lt
 | dK kvs=>obtain⟨_,_,_,_,o,_,_,e,_⟩:=x;exact Heap.lt_size e
 | dT kvs=>obtain⟨_,_,_,_,o,_,_,e,_⟩:=x;exact Heap.lt_size e
 | set S n=>obtain⟨o,_,_,_,e,_⟩:=x;exact Heap.lt_size e
 | ins C dx fs=>obtain⟨_,_,_,e,_⟩:=x;exact Heap.lt_size e
 | own y=>obtain⟨_,e⟩:=x;exact Heap.lt_size e
 | xd fs=>obtain⟨_,⟨_,_,_,e,_⟩,_⟩:=x;exact Heap.lt_size e
 | rng lo hi=>obtain⟨_,_,_,e⟩:=x;exact Heap.lt_size e
 | frz ob u=>obtain⟨e,_⟩:=x;exact Heap.lt_size e
 | tbl ps=>exact Heap.lt_size (show h.get? a=some _ from x)
 | met f y=>exact Heap.lt_size (show h.get? a=some _ from x)
 | ext φ=>obtain⟨_,⟨_,e⟩,_⟩:=x;exact Heap.lt_size e
theorem Paired.mapP {α β:Type} {F G:α→β→Prop}:∀{l₁:List α} {l₂:List β},Paired F l₁ l₂→(∀a b,F a b→G a b)→Paired G l₁ l₂
 | _,_,.nil,_=>.nil
 | _,_,.cons r t,f=>.cons (f _ _ r) (Paired.mapP t f)
theorem Paired.imp' {α β:Type} {F G:α→β→Prop} (f:∀a b,F a b→G a b) {l₁:List α} {l₂:List β} (r:Paired F l₁ l₂):Paired G l₁ l₂:=Paired.mapP r f
theorem ObjOk.stay (x:ObjOk P w H h a o) (k:∀b u,(b=a∨H b=some (.own a))→h.get? b=some u→h'.get? b=some u)
  (ho:∀b,H b=some (.own a)→H' b=some (.own a)) (ht:∀b xs,H b=some (.tup xs)→H' b=some (.tup xs)):ObjOk P w H' h' a o:=by
 induction o with
 | lst xs=>obtain⟨z,its,n,r,e⟩:=x;exact⟨z,its,n,r,k _ _ (.inl rfl) e⟩
 | tup xs=>obtain⟨z,its,r,ob,e,c⟩:=x;exact⟨z,its,r,ob,k _ _ (.inl rfl) e,c⟩
 | dK kvs=>obtain⟨z,y,vs,r,ob,es,ep,e,c⟩:=x;exact⟨z,y,vs,r,ob,es,ep,k _ _ (.inl rfl) e,c⟩
 | dT kvs =>
  obtain⟨z,y,xs,r,ob,es,ep,e,c⟩:=x
  exact⟨z,y,xs,Paired.mapP r λp q z=>⟨z.1,z.2.1.keeps ht,z.2.2⟩,ob,es,ep,k _ _ (.inl rfl) e,c⟩
 | set S n=>obtain⟨ob,es,ep,t,e,c⟩:=x;exact⟨ob,es,ep,t,k _ _ (.inl rfl) e,c⟩
 | ins C dx fs =>
  obtain⟨d,z,ne,e,mA,⟨od,es,ep,e2,c⟩,r⟩:=x
  exact⟨ho _ d,z,ne,k _ _ (.inl rfl) e,mA,⟨od,es,ep,k _ _ (.inr d) e2,c⟩,r⟩
 | own y=>obtain⟨ob,e⟩:=x;exact⟨ob,k _ _ (.inl rfl) e⟩
 | xd fs=>obtain⟨mA,⟨od,es,ep,e,c⟩,r⟩:=x;exact⟨mA,⟨od,es,ep,k _ _ (.inl rfl) e,c⟩,r⟩
 | rng lo hi=>obtain⟨t,u,v,e⟩:=x;exact⟨t,u,v,k _ _ (.inl rfl) e⟩
 | frz ob u ih=>obtain⟨e,q⟩:=x;exact⟨k _ _ (.inl rfl) e,ih q⟩
 | tbl ps =>
  have e:h.get? a=some { cls:=.none,data:=.fields ps }:=x
  show h'.get? a=some { cls:=.none,data:=.fields ps }
  exact k a _ (.inl rfl) e
 | met f y =>
  have e:h.get? a=some (PySem.W.methodObj (.ref f) (.ref y)):=x
  show h'.get? a=some (PySem.W.methodObj (.ref f) (.ref y))
  exact k a _ (.inl rfl) e
 | ext φ=>obtain⟨p,⟨o,e⟩,st⟩:=x;exact⟨st _ _ p λo q=>k _ _ (.inl rfl) q,⟨o,k _ _ (.inl rfl) e⟩,st⟩
theorem HOk.lt (x:HOk P w H h) (e:H a=some o):a < h.objs.size:=(x a o e).lt
theorem HOk.fresh (x:HOk P w H h) (e:h.objs.size≤a):H a=none:=by
 cases q:H a with
 | none=>rfl
 | some u=>exact absurd (Nat.lt_of_lt_of_le (x.lt q) e) (Nat.lt_irrefl _)
theorem HOk.kept (x:HOk P w H h) (k:∀b u,h.get? b=some u→h'.get? b=some u):HOk P w H h':=λa o e =>
 (x a o e).stay (λb u _ q=>k b u q) (λ_ q=>q) λ_ _ q=>q
theorem HOk.laid (x:HOk P w H h) (k:∀b u,h.get? b=some u→h'.get? b=some u) (hp:h.objs.size≤a) (new:ObjOk P w (upd H a o) h' a o):HOk P w (upd H a o) h':=λb u e=>by
 have hn:=x.fresh hp
 by_cases hb:b=a
 ·subst hb;rw[za1] at e;cases e;exact new
 ·rw[za6 hb] at e
  exact(x b u e).stay (λc v _ q=>k c v q) (λc q=>by rw[za6 (za7 q hn)];exact q) λc xs q=>by rw[za6 (za7 q hn)];exact q
end
def Rd (H:Hp) (a:Addr) (u:HO):Prop:=H a=some u∨∃o,H a=some (.frz o u)
theorem Rd.ok {P:Program} {w:World} {H:Hp} {h:Heap} {a:Addr} {u:HO} (r:Rd H a u) (x:HOk P w H h):ObjOk P w H h a u:=by
 rcases r with r|⟨o,r⟩
 ·exact x a u r
 ·obtain⟨_,q⟩:=x a _ r
  exact q
def Mut:Option HO→Prop
 | some (.lst _)=>True
 | some (.dK _)=>True
 | some (.dT _)=>True
 | some (.set _ _)=>True
 | some (.ins _ _ _)=>True
 | some (.ext _)=>True
 | _=>False
section
variable {P:Program} {w:World} {H:Hp} {h h':Heap} {x e:Addr} {o':HO}
theorem HOk.write (ok:HOk P w H h) (mu:Mut (H x)) (he:e=x∨H e=some (.own x)) (k:∀b u,b≠e→h.get? b=some u→h'.get? b=some u) (heo:∃u,h'.get? e=some u)
  (new:ObjOk P w (upd H x o') h' x o'):HOk P w (upd H x o') h':=λb u q=>by
 have nown:∀c y,H c=some (.own y)→c≠x:=λc y r z=>by subst z;rw[r] at mu;exact mu
 have ntup:∀c xs,H c=some (.tup xs)→c≠x:=λc xs r z=>by subst z;rw[r] at mu;exact mu
 by_cases hb:b=x
 ·subst hb;rw[za1] at q;cases q;exact new
 ·rw[za6 hb] at q
  by_cases hbe:b=e
  ·have q':H b=some (.own x):=by
    rcases he with z|z
    ·exact absurd (hbe.trans z) hb
    ·rw[hbe];exact z
   rw[q] at q';cases q'
   obtain⟨v,hv⟩:=heo
   exact⟨v,by rw[hbe];exact hv⟩
  ·refine(ok b u q).stay (λc v hc r=>k c v ?_ r) (λc r=>by rw[za6 (nown c b r)];exact r) λc xs r=>by rw[za6 (ntup c xs r)];exact r
   rcases hc with rfl|hc
   ·exact hbe
   ·rintro rfl
    rcases he with z|z
    ·exact nown c b hc z
    ·rw[hc] at z;cases z;exact hb rfl
end
structure Un (fs ex:List Addr) (H H':Hp) (h h':Heap):Prop where
 keep:∀b o,h.get? b=some o→H b=none→b∉fs→b∉ex→h'.get? b=some o
 slot:∀b o,h.get? b=some o→H b=none→b∈fs→b∉ex→∃sl,h'.get? b=some { o with slots:=sl }
 free:∀b o,h.get? b=some o→H b=none→b∉ex→H' b=none
 there:∀b o,h.get? b=some o→b∉ex→∃o',h'.get? b=some o'
 tups:∀b xs,H b=some (.tup xs)→H' b=some (.tup xs)
 frzs:∀b o u,H b=some (.frz o u)→H' b=some (.frz o u)
 tbls:∀b ps,H b=some (.tbl ps)→∃more,H' b=some (.tbl (ps++more))
section
variable {fs fs' ex ex':List Addr} {H H1 H2:Hp} {h h1 h2 h':Heap} {a x e:Addr} {o:HO}
theorem Un.any (u:Un fs ex H H1 h h1) {b:Addr} {ob:Obj} (q:h.get? b=some ob) (n:H b=none) (hx:b∉ex):∃sl,h1.get? b=some { ob with slots:=sl }:=by
 by_cases hb:b∈fs
 ·exact u.slot b ob q n hb hx
 ·exact⟨ob.slots,u.keep b ob q n hb hx⟩
theorem Un.kept (k:∀b u,h.get? b=some u→h'.get? b=some u):Un fs ex H H h h' :=
 ⟨λb ob q _ _ _=>k b ob q,λb ob q _ _ _=>⟨ob.slots,k b ob q⟩,λ_ _ _ n _=>n,λb ob q _=>⟨ob,k b ob q⟩,λ_ _ q=>q,λ_ _ _ q=>q,λ_ ps q=>⟨#[],by rw[q];simp⟩⟩
theorem Un.refl:Un fs ex H H h h:=Un.kept λ_ _ q=>q
theorem Un.laid (k:∀b u,h.get? b=some u→h'.get? b=some u) (hp:h.objs.size≤a) (hn:H a=none):Un fs ex H (upd H a o) h h' where
 keep:=λb u q _ _ _=>k b u q
 slot:=λb u q _ _ _=>⟨u.slots,k b u q⟩
 free:=λb u q n _=>by rw[za6 (Nat.ne_of_lt (Nat.lt_of_lt_of_le (Heap.lt_size q) hp))];exact n
 there:=λb u q _=>⟨u,k b u q⟩
 tups:=λb xs q=>by rw[za6 (za7 q hn)];exact q
 frzs:=λb u xs q=>by rw[za6 (za7 q hn)];exact q
 tbls:=λb ps q=>⟨#[],by rw[za6 (za7 q hn),q];simp⟩
theorem Un.write (mu:Mut (H x)) (he:e=x∨H e=some (.own x)) (k:∀b u,b≠e→h.get? b=some u→h'.get? b=some u) (heo:∃u,h'.get? e=some u):Un fs ex H (upd H x o) h h':=by
 have hx:∀b,H b=none→b≠x:=λb n z=>by subst z;rw[n] at mu;exact mu
 have hb:∀b,H b=none→b≠e:=λb n z=>by
  subst z
  rcases he with r|r
  ·exact hx b n r
  ·rw[n] at r;cases r
 have hm:∀b u,H b=some u→¬ Mut (some u)→b≠x:=λb u q nm z=>by subst z;rw[q] at mu;exact nm mu
 refine⟨λb u q n _ _=>k b u (hb b n) q,λb u q n _ _=>⟨u.slots,k b u (hb b n) q⟩,λb u q n _=>by rw[za6 (hx b n)];exact n,λb u q _=>?_,
  λb xs q=>by rw[za6 (hm b _ q λz=>z)];exact q,λb u xs q=>by rw[za6 (hm b _ q λz=>z)];exact q,λb ps q=>⟨#[],by rw[za6 (hm b _ q λz=>z),q];simp⟩⟩
 by_cases hbe:b=e
 ·subst hbe;exact heo
 ·exact⟨u,k b u hbe q⟩
end
def trk (h:Heap) (H:Hp):List Addr:=(List.range h.objs.size).filter λa=>(H a).isSome
def hidT (h:Heap) (H:Hp):Heap:=PySem.W.hideAll h (trk h H)
theorem zoj (h:Heap) (H:Hp):(hidT h H).objs.size=h.objs.size:=PySem.W.hideAll_size _ _
theorem zpE {h:Heap} {H:Hp} {b:Addr} {o:Obj} (e:h.get? b=some o) (n:H b=none):(hidT h H).get? b=some o :=
 PySem.W.hideAll_get _ e λhm=>by
  have q:(H b).isSome=true:=(List.mem_filter.mp hm).2
  rw[n] at q;simp at q
theorem zqq {h:Heap} {H:Hp} {b:Addr} {o:Obj} (e:(hidT h H).get? b=some o):h.get? b=some o∧H b=none:=by
 have e':h.get? b=some o:=PySem.W.of_hideAll (trk h H) e
 refine⟨e',?_⟩
 cases q:H b with
 | none=>rfl
 | some x =>
  have hm:b∈trk h H:=List.mem_filter.mpr ⟨List.mem_range.mpr (Heap.lt_size e'),by simp[q]⟩
  have z:(hidT h H).get? b=none:=PySem.W.hideAll_none (trk h H) hm
  rw[z] at e;cases e
end L2
namespace L2
open PySem PySem.Spec PyProof.Rows
structure Mod (K:PySem.W.Frag) (mg:Str→Option Value) (base:Heap):Prop where
 kin:K.In base
 glob:base.Ns mainGlobals mg
 blt:∃mb,base.Ns builtinsNs mb∧∀x:Str,x≠"__name__"→mb x=bootBuiltins x
 nolimit:base.NoLimit
structure Cx where
 prog:Program
 w:World
 K:PySem.W.Frag
 mg:Str→Option Value
 base:Heap
 A:Around
 N:List Str
 s_0:Shared
 H_0:Hp
 env:Env
 outer:List Env
 stack:List Env
 ex:List Addr
 fn:Str→Bool
 calm:Bool
 pn:List (Addr×Obj)
 xe:Value→Shared→Prop
def frs (l:List Env):List Addr:=l.filterMap (·.frame)
abbrev Cx.fs (X:Cx):List Addr:=frs X.outer
def Vis (sc:Scope) (x:Str):Prop:=sc.names.lookup x=some .local∨sc.names.lookup x=some .cell∨sc.names.lookup x=some .free
def Loc (sc:Scope) (x:Str):Prop:=sc.names.lookup x=some .local∨sc.names.lookup x=some .cell
def Look (env:Env) (h:Heap) (m:Str→Option Value) (x:Str) (u:Value):Prop :=
 (env.kindOf x=some .local∧m x=some u)∨((env.kindOf x=some .cell∨env.kindOf x=some .free)∧∃c,env.cells.lookup x=some c∧h.IsCell c (some u))
structure Cx.Ok (X:Cx):Prop where
 mod:Mod X.K X.mg X.base
 kind:X.env.scope.kind=.function
 glob:X.env.globals=mainGlobals
 blt:X.env.builtins=builtinsNs
 above:X.s_0.heap.objs.size≤X.env.locals
 inj:∀x y c,X.env.cells.lookup x=some c→X.env.cells.lookup y=some c→x=y
 has:∀x,(X.env.kindOf x=some .cell∨X.env.kindOf x=some .free)→∃c,X.env.cells.lookup x=some c
 cab:∀x c,X.fn x=true→X.env.cells.lookup x=some c→X.s_0.heap.objs.size≤c
 hd:X.calm=true→X.A.handled=none
 frames:X.A.frames=some X.stack
 stk:X.stack=X.outer∨(X.stack=X.env::X.outer∧X.env.frame=some X.env.locals)
 exf:∀b∈X.ex,b≠X.env.locals∧∀x c,X.env.cells.lookup x=some c→c≠b
 bs:∀b o,X.base.get? b=some o→X.s_0.heap.get? b=some o∧X.H_0 b=none
 bsz:X.base.objs.size≤X.s_0.heap.objs.size
 noex:∀b o,X.base.get? b=some o→b∉X.ex
 exfs:∀b∈X.ex,b∉X.fs
 funs:X.s_0.heap.FunFrames X.base X.outer
 frf:∀b∈X.fs,X.H_0 b=none
structure Inv (X:Cx) (pins:List (Addr×Obj)) (σ:List (Option V)) (H:Hp) (s:Shared):Prop where
 ok:X.Ok
 os:s.os=X.s_0.os
 bare:AllBare s.gens
 base:Un X.fs X.ex X.H_0 H X.s_0.heap s.heap
 loc:∃m,s.heap.Ns X.env.locals m∧∀(i:Nat) (x:Str) (v:V),X.N[i]?=some x→σ[i]?=some (some v)→Vis X.env.scope x→∃u,RelV v u∧Look X.env s.heap m x u
 cell:∀x c,X.env.cells.lookup x=some c→∃v,s.heap.IsCell c v
 free:H X.env.locals=none
 freeC:∀x c,X.env.cells.lookup x=some c→H c=none
 pin:∀p∈X.pn++pins,s.heap.get? p.1=some p.2∧H p.1=none∧p.1≠X.env.locals∧p.1∉X.fs∧∀v,p.2.data≠.cell v
 hok:HOk X.prog X.w H s.heap
 len:σ.length=X.N.length
section
variable {X:Cx} {pins:List (Addr×Obj)} {σ:List (Option V)} {H H':Hp} {s:Shared} {h':Heap}
theorem Cx.Ok.nofr (ok:X.Ok) {b:Addr} {o:Obj} (e:X.base.get? b=some o):b∉X.fs:=λhb=>by
 have:=(ok.funs.mem hb).1
 rw[e] at this;cases this
theorem Inv.bs (I:Inv X pins σ H s):∀b o,X.base.get? b=some o→s.heap.get? b=some o∧H b=none:=λb o e =>
 ⟨I.base.keep b o (I.ok.bs b o e).1 (I.ok.bs b o e).2 (I.ok.nofr e) (I.ok.noex b o e),I.base.free b o (I.ok.bs b o e).1 (I.ok.bs b o e).2 (I.ok.noex b o e)⟩
theorem Inv.bk (I:Inv X pins σ H s):∀b o,X.base.get? b=some o→s.heap.get? b=some o:=λb o e=>(I.bs b o e).1
theorem Inv.mod (I:Inv X pins σ H s):Mod X.K X.mg X.base:=I.ok.mod
theorem Inv.kIn (I:Inv X pins σ H s):X.K.In s.heap:=I.ok.mod.kin.keeps I.bk
theorem Inv.fr (I:Inv X pins σ H s):∃m,Fr X.base X.env.locals s.heap m :=
 let ⟨m,hn,_⟩:=I.loc
 ⟨m,hn,I.bk,Nat.le_trans I.ok.bsz I.ok.above⟩
theorem Inv.lt (I:Inv X pins σ H s):X.env.locals < s.heap.objs.size:=let ⟨_,hn,_⟩:=I.loc;hn.lt
theorem Inv.sz (I:Inv X pins σ H s):X.s_0.heap.objs.size≤s.heap.objs.size:=Nat.le_trans I.ok.above (Nat.le_of_lt I.lt)
theorem Inv.nofs (I:Inv X pins σ H s) {a:Addr} (h:s.heap.objs.size≤a):a∉X.fs:=λhb=>by
 obtain⟨_,o,ho,_⟩:=I.ok.funs.mem hb
 exact absurd (Nat.lt_of_lt_of_le (Heap.lt_size ho) (Nat.le_trans I.sz h)) (Nat.lt_irrefl _)
theorem Inv.cne (I:Inv X pins σ H s):∀x c,X.env.cells.lookup x=some c→c≠X.env.locals:=λx c e z=>by
 obtain⟨v,o,ho,hd⟩:=I.cell x c e
 obtain⟨m,⟨o',es,ep,ho',hd',_⟩,_⟩:=I.loc
 rw[z,ho'] at ho;cases ho;rw[hd'] at hd;cases hd
theorem Inv.funs (I:Inv X pins σ H s):s.heap.FunFrames X.base X.outer:=by
 have all:∀(l:List Env),(∀b∈frs l,b∈X.fs)→X.s_0.heap.FunFrames X.base l→s.heap.FunFrames X.base l:=by
  intro l
  induction l with
  | nil=>intro _ _;trivial
  | cons env r ih =>
   intro hs hl
   obtain⟨hk,⟨L,o,hf,hn,ho,hd⟩,hr⟩:=hl
   have hL:L∈X.fs:=hs L (by unfold frs;rw[List.filterMap_cons,hf];exact List.mem_cons_self)
   obtain⟨sl,e⟩:=I.base.slot L o ho (I.ok.frf L hL) hL λz=>I.ok.exfs L z hL
   exact⟨hk,⟨L,_,hf,hn,e,hd⟩,ih (λb hb=>hs b (by unfold frs;rw[List.filterMap_cons,hf];exact List.mem_cons_of_mem _ hb)) hr⟩
 exact all X.outer (λ_ hb=>hb) I.ok.funs
theorem Inv.stack (I:Inv X pins σ H s):s.heap.FunFrames X.base X.stack:=by
 rcases I.ok.stk with e|⟨e,hf⟩
 ·rw[e];exact I.funs
 ·rw[e]
  obtain⟨m,hn,_⟩:=I.loc
  refine .cons (by rw[I.ok.kind];decide) hf hn ?_ I.funs
  exact Heap.get?_none_of_le (Nat.le_trans I.ok.bsz I.ok.above)
theorem Inv.stkSub (I:Inv X pins σ H s):∀b∈frs X.stack,b∈X.env.locals::X.fs:=λb hb=>by
 rcases I.ok.stk with e|⟨e,hf⟩
 ·rw[e] at hb;exact List.mem_cons_of_mem _ hb
 ·rw[e] at hb
  unfold frs at hb
  rw[List.filterMap_cons,hf] at hb
  exact hb
theorem Inv.stkFree (I:Inv X pins σ H s):∀b∈frs X.stack,H b=none:=λb hb=>by
 rcases List.mem_cons.mp (I.stkSub b hb) with e|hb
 ·rw[e];exact I.free
 ·obtain⟨_,o,ho,_⟩:=I.ok.funs.mem hb
  exact I.base.free b o ho (I.ok.frf b hb) λz=>I.ok.exfs b z hb
theorem Inv.step {g':Array GenState} {t':Nat} {d':Drawn} {ch:List Addr} (I:Inv X pins σ H s)
  (hch:∀b∈ch,(b∈X.ex∨X.s_0.heap.objs.size≤b)∧b≠X.env.locals∧(∀x c,X.env.cells.lookup x=some c→c≠b)∧∀p∈X.pn++pins,p.1≠b)
  (keep:∀b o,b≠X.env.locals→b∉X.fs→b∉ch→s.heap.get? b=some o→H b=none→h'.get? b=some o)
  (slot:∀b o,b≠X.env.locals→b∈X.fs→b∉ch→s.heap.get? b=some o→H b=none→∃sl,h'.get? b=some { o with slots:=sl }) (free:∀b o,b∉ch→s.heap.get? b=some o→H b=none→H' b=none)
  (there:∀b o,b∉ch→s.heap.get? b=some o→∃o',h'.get? b=some o')
  (tups:∀b xs,H b=some (.tup xs)→H' b=some (.tup xs)) (frzs:∀b o u,H b=some (.frz o u)→H' b=some (.frz o u)) (tbls:∀b ps,H b=some (.tbl ps)→∃more,H' b=some (.tbl (ps++more)))
  (ns:∀m,s.heap.Ns X.env.locals m→h'.Ns X.env.locals m) (hok:HOk X.prog X.w H' h') (hg:AllBare g') :
  Inv X pins σ H' { s with heap:=h',gens:=g',drawn:=d',toks:=t' }:=by
 have neL:∀b o,X.s_0.heap.get? b=some o→b≠X.env.locals:=λb o e=>Nat.ne_of_lt (Nat.lt_of_lt_of_le (Heap.lt_size e) I.ok.above)
 have neC:∀b o,X.s_0.heap.get? b=some o→b∉X.ex→b∉ch:=λb o e hx hb=>by
  rcases (hch b hb).1 with z|z
  ·exact hx z
  ·exact absurd (Nat.lt_of_lt_of_le (Heap.lt_size e) z) (Nat.lt_irrefl _)
 have cellK:∀x c,X.env.cells.lookup x=some c→∀v,s.heap.IsCell c v→h'.IsCell c v:=λx c e v ⟨o,ho,hd⟩=>by
  have nch:c∉ch:=λz=>(hch c z).2.2.1 x c e rfl
  by_cases hc:c∈X.fs
  ·obtain⟨sl,q⟩:=slot c o (I.cne x c e) hc nch ho (I.freeC x c e)
   exact⟨_,q,hd⟩
  ·exact⟨o,keep c o (I.cne x c e) hc nch ho (I.freeC x c e),hd⟩
 refine⟨I.ok,I.os,hg,⟨λb o e n hb hx=>?_,λb o e n hb hx=>?_,λb o e n hx=>?_,λb o e hx=>?_,λb xs e=>tups b xs (I.base.tups b xs e),λb o xs e=>frzs b o xs (I.base.frzs b o xs e),λb ps e=>?_⟩,?_,λx c e=>?_,?_,λx c e=>?_,λp hp=>?_,hok,I.len⟩
 ·exact keep b o (neL b o e) hb (neC b o e hx) (I.base.keep b o e n hb hx) (I.base.free b o e n hx)
 ·obtain⟨sl,e1⟩:=I.base.slot b o e n hb hx
  obtain⟨sl',e2⟩:=slot b _ (neL b o e) hb (neC b o e hx) e1 (I.base.free b o e n hx)
  exact⟨sl',e2⟩
 ·obtain⟨o',e1⟩:=I.base.there b o e hx
  exact free b o' (neC b o e hx) e1 (I.base.free b o e n hx)
 ·obtain⟨o',e1⟩:=I.base.there b o e hx
  exact there b o' (neC b o e hx) e1
 ·obtain⟨m1,e1⟩:=I.base.tbls b ps e
  obtain⟨m2,e2⟩:=tbls b _ e1
  exact⟨m1++m2,by rw[e2,Array.append_assoc]⟩
 ·obtain⟨m,hn,hl⟩:=I.loc
  refine⟨m,ns m hn,λi x v e1 e2 e3=>?_⟩
  obtain⟨u,r,l⟩:=hl i x v e1 e2 e3
  refine⟨u,r,?_⟩
  rcases l with l|⟨k,c,e,z⟩
  ·exact .inl l
  ·exact .inr ⟨k,c,e,cellK x c e _ z⟩
 ·obtain⟨v,z⟩:=I.cell x c e
  exact⟨v,cellK x c e v z⟩
 ·obtain⟨m,⟨o,_,_,ho,_⟩,_⟩:=I.loc
  exact free _ o (λz=>(hch _ z).2.1 rfl) ho I.free
 ·obtain⟨v,o,ho,hd⟩:=I.cell x c e
  exact free c o (λz=>(hch c z).2.2.1 x c e rfl) ho (I.freeC x c e)
 ·obtain⟨e,n,ne,nf,d⟩:=I.pin p hp
  have nch:p.1∉ch:=λz=>(hch p.1 z).2.2.2 p hp rfl
  exact⟨keep p.1 p.2 ne nf nch e n,free p.1 p.2 nch e n,ne,nf,d⟩
theorem Inv.un {t':Nat} (I:Inv X pins σ H s) (u:Un X.fs [] H H' s.heap h') (hok:HOk X.prog X.w H' h'):Inv X pins σ H' { s with heap:=h',toks:=t' }:=by
 obtain⟨m,⟨o,es,ep,ho,r⟩,_⟩:=id I.loc
 obtain⟨sl,hL⟩:=u.any ho I.free (by simp)
 exact I.step (g':=s.gens) (d':=s.drawn) (ch:=[]) (λ_ z=>nomatch z) (λb o _ hb _ e n=>u.keep b o e n hb (by simp)) (λb o _ hb _ e n=>u.slot b o e n hb (by simp)) (λb o _ e n=>u.free b o e n (by simp)) (λb o _ e=>u.there b o e (by simp)) u.tups u.frzs u.tbls (λm' hm=>by
  obtain⟨o',es',ep',ho',r'⟩:=hm
  rw[ho] at ho';cases ho'
  exact⟨_,es',ep',hL,r'⟩) hok I.bare
theorem Inv.call {g':Array GenState} {t':Nat} {d':Drawn} {ch:List Addr} (I:Inv X pins σ H s) (u:Un (frs X.stack) ch H H' s.heap h') (hok:HOk X.prog X.w H' h') (hg:AllBare g')
  (hch:∀b∈ch,(b∈X.ex∨X.s_0.heap.objs.size≤b)∧b≠X.env.locals∧(∀x c,X.env.cells.lookup x=some c→c≠b)∧∀p∈X.pn++pins,p.1≠b) :
  Inv X pins σ H' { s with heap:=h',gens:=g',drawn:=d',toks:=t' }:=by
 obtain⟨m,⟨o,es,ep,ho,r⟩,_⟩:=id I.loc
 obtain⟨sl,hL⟩:=u.any ho I.free λz=>(hch _ z).2.1 rfl
 exact I.step (ch:=ch) hch (λb o hL hb hc e n=>u.keep b o e n (λz=>(List.mem_cons.mp (I.stkSub b z)).elim hL hb) hc) (λb o _ _ hc e n=>u.any e n hc) (λb o hc e n=>u.free b o e n hc) (λb o hc e=>u.there b o e hc) u.tups u.frzs u.tbls (λm' hm=>by
  obtain⟨o',es',ep',ho',r'⟩:=hm
  rw[ho] at ho';cases ho'
  exact⟨_,es',ep',hL,r'⟩) hok hg
theorem Inv.turned {t':Nat} {it:Addr} (I:Inv X pins σ H s) (k:∀b o,b≠it→s.heap.get? b=some o→h'.get? b=some o) (hn:H it=none) (hL:it≠X.env.locals)
  (h1:it∈X.ex∨X.s_0.heap.objs.size≤it) (h2:∀x c,X.env.cells.lookup x=some c→c≠it) (h3:∀p∈X.pn++pins,p.1≠it):Inv X pins σ H { s with heap:=h',toks:=t' }:=by
 have nit:∀b u,H b=some u→b≠it:=λb u e z=>by rw[z,hn] at e;cases e
 refine I.step (g':=s.gens) (d':=s.drawn) (ch:=[it]) (λb hb=>?_) (λb o _ _ hc e _=>k b o (λz=>hc (by simp[z])) e) (λb o _ _ hc e _=>⟨o.slots,k b o (λz=>hc (by simp[z])) e⟩) (λ_ _ _ _ n=>n)
  (λb o hc e=>⟨o,k b o (λz=>hc (by simp[z])) e⟩) (λ_ _ e=>e) (λ_ _ _ e=>e) (λb ps e=>⟨#[],by rw[e];simp⟩) (λm hm=>?_) (λb u e=>?_) I.bare
 ·have e:b=it:=by simpa using hb
  subst e
  exact⟨h1,hL,h2,h3⟩
 ·obtain⟨o,es,ep,ho,r⟩:=hm
  exact⟨o,es,ep,k _ o (Ne.symm hL) ho,r⟩
 ·refine(I.hok b u e).stay (λc v hc q=>k c v ?_ q) (λ_ q=>q) λ_ _ q=>q
  rcases hc with z|z
  ·rw[z];exact nit b u e
  ·exact nit c _ z
theorem Inv.tok (I:Inv X pins σ H s) (t:Nat):Inv X pins σ H { s with toks:=t }:=I.un (h':=s.heap) (t':=t) Un.refl I.hok
theorem Inv.kept {t':Nat} (I:Inv X pins σ H s) (k:∀b u,s.heap.get? b=some u→h'.get? b=some u):Inv X pins σ H { s with heap:=h',toks:=t' }:=I.un (Un.kept k) (I.hok.kept k)
theorem Inv.laid {a:Addr} {o:HO} {t':Nat} (I:Inv X pins σ H s) (k:∀b u,s.heap.get? b=some u→h'.get? b=some u) (hp:s.heap.objs.size≤a) (new:ObjOk X.prog X.w (upd H a o) h' a o) :
  Inv X pins σ (upd H a o) { s with heap:=h',toks:=t' }:=I.un (Un.laid k hp (I.hok.fresh hp)) (I.hok.laid k hp new)
theorem Inv.write {x e:Addr} {o:HO} {t':Nat} (I:Inv X pins σ H s) (mu:Mut (H x)) (he:e=x∨H e=some (.own x)) (k:∀b u,b≠e→s.heap.get? b=some u→h'.get? b=some u) (heo:∃u,h'.get? e=some u)
  (new:ObjOk X.prog X.w (upd H x o) h' x o):Inv X pins σ (upd H x o) { s with heap:=h',toks:=t' }:=I.un (Un.write mu he k heo) (I.hok.write mu he k heo new)
theorem Inv.weak {σ':List (Option V)} (I:Inv X pins σ H s) (hl:σ'.length=σ.length) (w:∀(i:Nat) v,σ'[i]?=some (some v)→σ[i]?=some (some v)):Inv X pins σ' H s :=
 ⟨I.ok,I.os,I.bare,I.base,let ⟨m,hn,hl'⟩:=I.loc;⟨m,hn,λi x v e1 e2 e3=>hl' i x v e1 (w i v e2) e3⟩,I.cell,I.free,I.freeC,I.pin,I.hok,hl.trans I.len⟩
theorem Inv.znK {pins':List (Addr×Obj)} (I:Inv X pins σ H s) (h:∀p∈pins',s.heap.get? p.1=some p.2∧H p.1=none∧p.1≠X.env.locals∧p.1∉X.fs∧∀v,p.2.data≠.cell v):Inv X pins' σ H s :=
 ⟨I.ok,I.os,I.bare,I.base,I.loc,I.cell,I.free,I.freeC,λp hp=>(List.mem_append.mp hp).elim (λz=>I.pin p (List.mem_append_left _ z)) (h p),I.hok,I.len⟩
theorem zjJ {N:List Str} (hN:N.Nodup) {i j:Nat} {x:Str} (a:N[i]?=some x) (b:N[j]?=some x):i=j:=by
 obtain⟨h1,e1⟩:=List.getElem?_eq_some_iff.mp a
 obtain⟨h2,e2⟩:=List.getElem?_eq_some_iff.mp b
 exact(List.getElem_inj hN).mp (e1.trans e2.symm)
theorem zki {M:Model} {A:Around} {E:Value→Shared→Prop} {i:Nat} {x:Str} {v:V} {u:Value} {Q:Unit→Shared→Prop} (I:Inv X pins σ H s) (hN:X.N.Nodup) (hi:X.N[i]?=some x) (hx:Loc X.env.scope x) (r:RelV v u)
  (h:∀s',Inv X pins (σ.set i (some v)) H s'→(∃a,Heap.SameBut a s.heap s'.heap∧(a=X.env.locals∨X.env.cells.lookup x=some a))→Q () s') (hf:X.fn x=true∨X.env.scope.names.lookup x=some .local:=by first|exact .inl rfl|exact .inr rfl|assumption):wpAny M A (storeName X.env x u) Q E s:=by
 obtain⟨m,hn,hl⟩:=id I.loc
 have hcls:(X.env.scope.kind == .class || (X.env.scope.kind == .module && X.env.locals != X.env.globals))=false:=by rw[I.ok.kind];rfl
 have hiσ:i < σ.length:=by rw[I.len];exact(List.getElem?_eq_some_iff.mp hi).1
 have cne:=I.cne
 have tracked:∀{a:Addr} {h':Heap},(∃o,s.heap.get? a=some o∧H a=none)→Heap.SameBut a s.heap h'→HOk X.prog X.w H h':=λ{a h'} ha hs b ob e=>by
  obtain⟨_,_,hfree⟩:=ha
  refine(I.hok b ob e).stay (λc w' hc q=>(hs.2 c ?_).trans q) (λ_ q=>q) λ_ _ q=>q
  rintro rfl
  rcases hc with rfl|hc
  ·rw[hfree] at e;cases e
  ·rw[hfree] at hc;cases hc
 rcases hx with hk|hk
 ·refine wpAny_storeName_local hk hn (λh' hn' hs=>?_) hcls
  obtain⟨oL,_,_,hoL,_⟩:=id hn
  refine h _ ⟨I.ok,I.os,I.bare,⟨λb o e n hb hx=>?_,λb o e n hb hx=>?_,I.base.free,λb o e hx=>?_,I.base.tups,I.base.frzs,I.base.tbls⟩,⟨_,hn',λj y v' e1 e2 e3=>?_⟩,λy c e=>?_,I.free,I.freeC,λp hp=>?_,tracked ⟨oL,hoL,I.free⟩ hs,by simpa using I.len⟩ ⟨_,hs,.inl rfl⟩
  ·exact(hs.2 b (Nat.ne_of_lt (Nat.lt_of_lt_of_le (Heap.lt_size e) I.ok.above))).trans (I.base.keep b o e n hb hx)
  ·obtain⟨sl,e1⟩:=I.base.slot b o e n hb hx
   exact⟨sl,(hs.2 b (Nat.ne_of_lt (Nat.lt_of_lt_of_le (Heap.lt_size e) I.ok.above))).trans e1⟩
  ·obtain⟨o',e1⟩:=I.base.there b o e hx
   exact⟨o',(hs.2 b (Nat.ne_of_lt (Nat.lt_of_lt_of_le (Heap.lt_size e) I.ok.above))).trans e1⟩
  ·by_cases hj:j=i
   ·subst hj
    rw[hi] at e1;cases e1
    rw[List.getElem?_set_self hiσ] at e2
    cases e2
    exact⟨u,r,.inl ⟨hk,by simp⟩⟩
   ·rw[List.getElem?_set_ne (Ne.symm hj)] at e2
    obtain⟨u',r',q⟩:=hl j y v' e1 e2 e3
    refine⟨u',r',?_⟩
    rcases q with ⟨k,e⟩|⟨k,c,e,z⟩
    ·refine .inl ⟨k,?_⟩
     have:y≠x:=λe=>hj (zjJ hN e1 (e ▸ hi))
     simp[this,e]
    ·exact .inr ⟨k,c,e,z.sameBut hs (cne y c e)⟩
  ·obtain⟨w',z⟩:=I.cell y c e
   exact⟨w',z.sameBut hs (cne y c e)⟩
  ·obtain⟨e,n,ne,nf,d⟩:=I.pin p hp
   exact⟨(hs.2 p.1 ne).trans e,n,ne,nf,d⟩
 ·have hfn:X.fn x=true:=by
   rcases hf with z|z
   ·exact z
   ·rw[z] at hk;cases hk
  obtain⟨c,hc⟩:=I.ok.has x (.inl hk)
  obtain⟨w',z⟩:=I.cell x c hc
  refine wpAny_storeName_cell I.ok.kind hk hc z (λh' hc' hs=>?_)
  obtain⟨oc,hoc,hocd⟩:=id z
  refine h { s with heap:=h' } ⟨I.ok,I.os,I.bare,⟨λb o e n hb hx=>?_,λb o e n hb hx=>?_,I.base.free,λb o e hx=>?_,I.base.tups,I.base.frzs,I.base.tbls⟩,⟨m,hn.sameBut hs (Ne.symm (cne x c hc)),λj y v' e1 e2 e3=>?_⟩,λy c' e=>?_,I.free,I.freeC,λp hp=>?_,tracked ⟨oc,hoc,I.freeC x c hc⟩ hs,by simpa using I.len⟩ ⟨c,hs,.inr hc⟩
  ·exact(hs.2 b (Nat.ne_of_lt (Nat.lt_of_lt_of_le (Heap.lt_size e) (I.ok.cab x c hfn hc)))).trans (I.base.keep b o e n hb hx)
  ·obtain⟨sl,e1⟩:=I.base.slot b o e n hb hx
   exact⟨sl,(hs.2 b (Nat.ne_of_lt (Nat.lt_of_lt_of_le (Heap.lt_size e) (I.ok.cab x c hfn hc)))).trans e1⟩
  ·obtain⟨o',e1⟩:=I.base.there b o e hx
   exact⟨o',(hs.2 b (Nat.ne_of_lt (Nat.lt_of_lt_of_le (Heap.lt_size e) (I.ok.cab x c hfn hc)))).trans e1⟩
  ·by_cases hj:j=i
   ·subst hj
    rw[hi] at e1;cases e1
    rw[List.getElem?_set_self hiσ] at e2
    cases e2
    exact⟨u,r,.inr ⟨.inl hk,c,hc,hc'⟩⟩
   ·rw[List.getElem?_set_ne (Ne.symm hj)] at e2
    obtain⟨u',r',q⟩:=hl j y v' e1 e2 e3
    refine⟨u',r',?_⟩
    rcases q with q|⟨k,c',e,z'⟩
    ·exact .inl q
    ·refine .inr ⟨k,c',e,z'.sameBut hs ?_⟩
     rintro rfl
     exact hj (zjJ hN e1 (I.ok.inj _ _ _ e hc ▸ hi))
  ·by_cases hcc:c'=c
   ·subst hcc;exact⟨_,hc'⟩
   ·obtain⟨w2,z2⟩:=I.cell y c' e
    exact⟨w2,z2.sameBut hs hcc⟩
  ·obtain⟨e,n,ne,nf,d⟩:=I.pin p hp
   refine⟨(hs.2 p.1 ?_).trans e,n,ne,nf,d⟩
   intro q
   rw[q,hoc] at e
   have q':oc=p.2:=Option.some.inj e
   exact d w' (by rw[←q'];exact hocd)
theorem zjl {M:Model} {A:Around} {E:Value→Shared→Prop} {i:Nat} {x:Str} {v:V} {u:Value} {Q:Unit→Shared→Prop} (I:Inv X pins σ H s) (hN:X.N.Nodup) (hi:X.N[i]?=some x) (hx:Loc X.env.scope x) (r:RelV v u)
  (h:∀s',Inv X pins (σ.set i (some v)) H s'→Q () s') (hf:X.fn x=true∨X.env.scope.names.lookup x=some .local:=by first|exact .inl rfl|exact .inr rfl|assumption):wpAny M A (storeName X.env x u) Q E s :=
 zki I hN hi hx r (λs' I' _=>h s' I') hf
theorem Inv.call' {s':Shared} {ch:List Addr} (I:Inv X pins σ H s) (ho:s'.os=s.os) (u:Un (frs X.stack) ch H H' s.heap s'.heap) (hok:HOk X.prog X.w H' s'.heap) (hg:AllBare s'.gens)
  (hch:∀b∈ch,(b∈X.ex∨X.s_0.heap.objs.size≤b)∧b≠X.env.locals∧(∀x c,X.env.cells.lookup x=some c→c≠b)∧∀p∈X.pn++pins,p.1≠b):Inv X pins σ H' s':=by
 obtain⟨h',g',d',t',o'⟩:=s'
 have e:o'=s.os:=ho
 subst e
 exact I.call (g':=g') (t':=t') (d':=d') u hok hg hch
end
abbrev XK:=Value→Option Addr→Hp→Prop
abbrev St:=List (Option V)
abbrev VK:=V→Hp→Prop
abbrev TE:=St→Hp→VK→Prop
abbrev TT:=St→Hp→(Bool→Hp→Prop)→Prop
abbrev TA:=St→Hp→(List V→Hp→Prop)→Prop
structure Ends where
 nx:St→Hp→Prop
 rt:VK
 bk:St→Hp→Prop:=λ_ _=>False
 ct:St→Hp→Prop:=λ_ _=>False
abbrev TS:=Ends→St→Hp→Prop
def EP (X:Cx) (pins:List (Addr×Obj)) (σ:St) (Q:VK) (u:Value) (s':Shared):Prop:=∃v H',Inv X pins σ H' s'∧RelV v u∧Q v H'
def TP (X:Cx) (pins:List (Addr×Obj)) (σ:St) (Q:Bool→Hp→Prop) (b:Bool) (s':Shared):Prop:=∃H',Inv X pins σ H' s'∧Q b H'
def AP (X:Cx) (pins:List (Addr×Obj)) (σ:St) (Q:List V→Hp→Prop) (us:List Value) (s':Shared):Prop:=∃vs H',Inv X pins σ H' s'∧Vals vs us∧Q vs H'
def SP (X:Cx) (pins:List (Addr×Obj)) (D:Ends) (f:Flow) (s':Shared):Prop :=
 match f with
 | .next=>∃σ' H',Inv X pins σ' H' s'∧D.nx σ' H'
 | .brk=>∃σ' H',Inv X pins σ' H' s'∧D.bk σ' H'
 | .cont=>∃σ' H',Inv X pins σ' H' s'∧D.ct σ' H'
 | .ret u=>∃v σ' H',Inv X pins σ' H' s'∧RelV v u∧D.rt v H'
def PE (X:Cx) (e:Expr) (t:TE):Prop :=
 ∀(pins:List (Addr×Obj)) (s:Shared) (σ:St) (H:Hp) (Q:VK),Inv X pins σ H s→t σ H Q→wpAny (model X.prog X.w) X.A (eval e X.env) (EP X pins σ Q) X.xe s
def PT (X:Cx) (e:Expr) (t:TT):Prop :=
 ∀(pins:List (Addr×Obj)) (s:Shared) (σ:St) (H:Hp) (Q:Bool→Hp→Prop),Inv X pins σ H s→t σ H Q→wpAny (model X.prog X.w) X.A (isTrue e X.env (eval e X.env)) (TP X pins σ Q) X.xe s
def PW (X:Cx) (e:Expr) (t:TT):Prop :=
 ∀(whole:Sem Value) (pins:List (Addr×Obj)) (s:Shared) (σ:St) (H:Hp) (Q:Bool→Hp→Prop),Inv X pins σ H s→t σ H Q→wpAny (model X.prog X.w) X.A (isTrue e X.env whole) (TP X pins σ Q) X.xe s
theorem PW.pt {X:Cx} {e:Expr} {t:TT} (h:PW X e t):PT X e t:=h _
def PA (X:Cx) (es:List Expr) (t:TA):Prop :=
 ∀(pos:Pos) (pins:List (Addr×Obj)) (s:Shared) (σ:St) (H:Hp) (Q:List V→Hp→Prop),Inv X pins σ H s→t σ H Q→wpAny (model X.prog X.w) X.A (spliced (backTo pos (starEach es X.env))) (AP X pins σ Q) X.xe s
def PS (X:Cx) (st:Stmt) (t:TS):Prop :=
 ∀(pins:List (Addr×Obj)) (s:Shared) (σ:St) (H:Hp) (D:Ends),Inv X pins σ H s→t D σ H→wpAny (model X.prog X.w) X.A (exec st X.env) (SP X pins D) X.xe s
def PSs (X:Cx) (st:List Stmt) (t:TS):Prop :=
 ∀(pins:List (Addr×Obj)) (s:Shared) (σ:St) (H:Hp) (D:Ends),Inv X pins σ H s→t D σ H→wpAny (model X.prog X.w) X.A (execs st X.env) (SP X pins D) X.xe s
theorem thn {α:Type} {t:Sem α} {Q Q':α→Shared→Prop} {M:Model} {A:Around} {E:Value→Shared→Prop} {s:Shared} (h:wpAny M A t Q E s) (hQ:∀a s,Q a s→Q' a s):wpAny M A t Q' E s:=wpAny_mono h hQ λ_ _ x=>x
end L2
namespace L2
open PySem PySem.Spec PyProof.Rows
section
variable {X:Cx}
theorem bin {a b:Expr} {ta tb:TE} (ha:PE X a ta) (hb:PE X b tb) {pins:List (Addr×Obj)} {s:Shared} {σ:St} {H:Hp} {R:V→V→Hp→Prop} (I:Inv X pins σ H s) (h:ta σ H λx H1=>tb σ H1 λy H2=>R x y H2)
  {α:Type} {Q:α→Shared→Prop} {f:Value→Value→Sem α}
  (hf:∀v u s2 x y H2,Inv X pins σ H2 s2→RelV x v→RelV y u→R x y H2→wpAny (model X.prog X.w) X.A (f v u) Q X.xe s2) :
  wpAny (model X.prog X.w) X.A (eval a X.env) (λv s₁=>wpAny (model X.prog X.w) X.A (eval b X.env) (λu s₂=>wpAny (model X.prog X.w) X.A (f v u) Q X.xe s₂) X.xe s₁) X.xe s:=by
 refine thn (ha pins s σ H _ I h) λv s1 ⟨x,H1,I1,r1,q1⟩=>?_
 refine thn (hb pins s1 σ H1 _ I1 q1) λu s2 ⟨y,H2,I2,r2,q2⟩=>?_
 exact hf v u s2 x y H2 I2 r1 r2 q2
def tVar (i:Nat):TE:=λσ H Q=>∃v,σ[i]?=some (some v)∧Q v H
def tC (v:V):TE:=λ_ H Q=>Q v H
theorem zr0 {i:Nat} {x:Str} {pos:Pos} (hN:X.N[i]?=some x) (hv:Vis X.env.scope x) (hd:(x == ("__debug__":Str))=false:=by decide) (hcd:(x == ("__classdict__":Str))=false:=by decide):PE X (.Name x pos) (tVar i):=by
 intro pins s σ H Q I h
 obtain⟨v,e,h⟩:=h
 obtain⟨m,hn,hl⟩:=I.loc
 obtain⟨u,r,l⟩:=hl i x v hN e hv
 have fin:EP X pins σ Q u s:=⟨v,H,I,r,h⟩
 rcases l with ⟨hk,hm⟩|⟨hk,c,hc,hcell⟩
 ·exact wpAny_Name (wpAny_loadName_local I.ok.kind hk hn hm fin) hd
 ·rcases hk with hk|hk
  ·exact wpAny_Name (wpAny_loadName_cell I.ok.kind hk hc hcell fin) hd
  ·exact wpAny_Name (wpAny_loadName_free I.ok.kind hk hc hcell fin hcd) hd
theorem zae {i j pos}:PE X (.Constant (.int i) j pos) (tC (.int i)):=λ_ _ _ H _ I h=>wpAny_Constant_int ⟨.int i,H,I.tok _,⟨_,rfl⟩,h⟩
theorem pe_bl {b j pos}:PE X (.Constant (.bool b) j pos) (tC (.bl b)):=λ_ _ _ H _ I h=>Constant_bool ⟨.bl b,H,I,rfl,h⟩
def Gl (X:Cx) (x:Str):Prop:=X.env.kindOf x=some .globalImplicit
theorem zg6 {E:Value→Shared→Prop} {pins:List (Addr×Obj)} {s:Shared} {σ:St} {H:Hp} {x:Str} {u:Value} {pos:Pos} {Q:Value→Shared→Prop} (I:Inv X pins σ H s) (hg:Gl X x) (hm:X.mg x=some u) (h:Q u s)
  (hd:(x == ("__debug__":Str))=false:=by decide):wpAny (model X.prog X.w) X.A (eval (.Name x pos) X.env) Q E s :=
 Calls.Name_function_global I.ok.kind hg (Calls.loadGlobal_global (by rw[I.ok.glob];exact I.mod.glob.keeps I.bk) hm h) hd
theorem zgM {E:Value→Shared→Prop} {pins:List (Addr×Obj)} {s:Shared} {σ:St} {H:Hp} {x:Str} {u:Value} {pos:Pos} {Q:Value→Shared→Prop} (I:Inv X pins σ H s) (hg:Gl X x) (hm:X.mg x=none) (hv:bootBuiltins x=some u) (h:Q u s)
  (hn:x≠"__name__":=by decide) (hd:(x == ("__debug__":Str))=false:=by decide):wpAny (model X.prog X.w) X.A (eval (.Name x pos) X.env) Q E s:=by
 obtain⟨mb,h1,h2⟩:=I.mod.blt
 exact Calls.Name_function_global I.ok.kind hg (Calls.loadGlobal_builtin (by rw[I.ok.glob];exact I.mod.glob.keeps I.bk) hm (by rw[I.ok.blt];exact h1.keeps I.bk) ((h2 x hn).trans hv) h) hd
theorem znN {x:Str} {v:V} {u:Value} {pos:Pos} (hg:Gl X x) (hm:X.mg x=some u) (r:RelV v u) (hd:(x == ("__debug__":Str))=false:=by decide):PE X (.Name x pos) (tC v) :=
 λ_ _ _ H _ I h=>zg6 I hg hm ⟨v,H,I,r,h⟩ hd
variable {a b:Expr} {ta tb:TE} {pos:Pos}
def PC (X:Cx) (op:CmpOp) (a b:Expr) (t:TE):Prop :=
 ∀(pins:List (Addr×Obj)) (s:Shared) (σ:St) (H:Hp) (Q:VK),Inv X pins σ H s→t σ H Q→
  wpAny (model X.prog X.w) X.A (eval a X.env) (λv s₁=>wpAny (model X.prog X.w) X.A (eval b X.env) (λu s₂=>wpAny (model X.prog X.w) X.A (compareOp op v u) (EP X pins σ Q) X.xe s₂) X.xe s₁) X.xe s
def tB (t:TE):TT:=λσ H Q=>t σ H λx H1=>∃c,x=.bl c∧Q c H1
theorem zr1 {op:CmpOp} {t:TE} (h:PC X op a b t) (h1:behindInMarks op b=false:=by first|exact nobehind _ (by decide) (by decide)|rfl):PE X (.Compare a [op] [b] pos) t:=λpins s σ H Q I hw=>wpAny_Compare1 (h pins s σ H Q I hw) h1
theorem zrj {op:CmpOp} {t:TE} (h:PC X op a b t) (h1:behindInMarks op b=false:=by first|exact nobehind _ (by decide) (by decide)|rfl):PT X (.Compare a [op] [b] pos) (tB t):=by
 intro pins s σ H Q I hw
 refine wpAny_isTrue_Compare1 (thn (h pins s σ H _ I hw) λv s1 h1=>thn h1 λu s2 h2=>thn h2 λc s3 ⟨x,H1,I1,r1,q1⟩=>?_) h1
 obtain⟨d,rfl,q⟩:=q1
 cases r1
 exact wpAny_truthy_bool ⟨H1,I1,q⟩
theorem zgH {e:Expr} {t:TE} (h:PE X e t) (he:∀whole,isTrue e X.env whole=(do let v ←whole;standAt e.pos;holding [v] (truthy v)):=by intro _;rfl):PT X e (tB t):=by
 intro pins s σ H Q I hw
 refine isTrue_plain (thn (h pins s σ H _ I hw) λv s1 ⟨x,H1,I1,r1,q1⟩=>?_) (he _)
 obtain⟨d,rfl,q⟩:=q1
 cases r1
 exact wpAny_truthy_bool ⟨H1,I1,q⟩
variable {tA tB':TT} {rest:List Expr}
def tAnd (t u:TT):TT:=λσ H Q=>t σ H λc H1=>if c=true then u σ H1 Q else Q false H1
def tOr (t u:TT):TT:=λσ H Q=>t σ H λc H1=>if c=true then Q true H1 else u σ H1 Q
def tNot (t:TT):TT:=λσ H Q=>t σ H λc H1=>Q (!c) H1
theorem zjw (ha:PT X a tA):PW X (.BoolOp .And [a] pos) tA:=by
 intro wh pins s σ H Q I h
 refine isTrue_and (thn (ha pins s σ H Q I h) λc s1 e=>?_)
 cases c with
 | true=>exact isTrue_and_nil e
 | false=>exact e
theorem zhv (ha:PT X a tA):PW X (.BoolOp .Or [a] pos) tA:=by
 intro wh pins s σ H Q I h
 refine isTrue_or (thn (ha pins s σ H Q I h) λc s1 e=>?_)
 cases c with
 | false=>exact isTrue_or_nil e
 | true=>exact e
theorem zmk (ha:PT X a tA) (hb:PW X (.BoolOp .And (b::rest) pos) tB'):PW X (.BoolOp .And (a::b::rest) pos) (tAnd tA tB'):=by
 intro wh pins s σ H Q I h
 refine isTrue_and (thn (ha pins s σ H _ I h) λc s1 ⟨H1,I1,q1⟩=>?_)
 cases c with
 | true=>exact hb wh pins s1 σ H1 Q I1 q1
 | false=>exact⟨H1,I1,q1⟩
theorem pw_or (ha:PT X a tA) (hb:PW X (.BoolOp .Or (b::rest) pos) tB'):PW X (.BoolOp .Or (a::b::rest) pos) (tOr tA tB'):=by
 intro wh pins s σ H Q I h
 refine isTrue_or (thn (ha pins s σ H _ I h) λc s1 ⟨H1,I1,q1⟩=>?_)
 cases c with
 | true=>exact⟨H1,I1,q1⟩
 | false=>exact hb wh pins s1 σ H1 Q I1 q1
theorem zkp (ha:PT X a tA):PT X (.UnaryOp .Not a pos) (tNot tA):=by
 intro pins s σ H Q I h
 exact isTrue_not (ha pins s σ H (λc H1=>Q (!c) H1) I h)
def tAndV (ta tb:TE):TE:=λσ H Q=>ta σ H λx H1=>∃c,x=.bl c∧if c=true then tb σ H1 Q else Q (.bl false) H1
def tOrV (ta tb:TE):TE:=λσ H Q=>ta σ H λx H1=>∃c,x=.bl c∧if c=true then Q (.bl true) H1 else tb σ H1 Q
theorem zkw {op} {t:TE} (h:PE X a t):PE X (.BoolOp op [a] pos) t:=λpins s σ H Q I hw=>BoolOp_one (h pins s σ H Q I hw)
theorem zmn (ha:PE X a ta) (hb:PE X (.BoolOp .And (b::rest) pos) tb):PE X (.BoolOp .And (a::b::rest) pos) (tAndV ta tb):=by
 intro pins s σ H Q I h
 refine BoolOp_and (thn (ha pins s σ H _ I h) λv s1 ⟨x,H1,I1,r1,q1⟩=>?_)
 obtain⟨c,rfl,q1⟩:=q1
 cases r1
 refine wpAny_truthy_bool ?_
 cases c with
 | true=>exact hb pins s1 σ H1 Q I1 q1
 | false=>exact⟨.bl false,H1,I1,rfl,q1⟩
theorem pe_or (ha:PE X a ta) (hb:PE X (.BoolOp .Or (b::rest) pos) tb):PE X (.BoolOp .Or (a::b::rest) pos) (tOrV ta tb):=by
 intro pins s σ H Q I h
 refine BoolOp_or (thn (ha pins s σ H _ I h) λv s1 ⟨x,H1,I1,r1,q1⟩=>?_)
 obtain⟨c,rfl,q1⟩:=q1
 cases r1
 refine wpAny_truthy_bool ?_
 cases c with
 | false=>exact hb pins s1 σ H1 Q I1 q1
 | true=>exact⟨.bl true,H1,I1,rfl,q1⟩
def tIf (t:TT) (ta tb:TE):TE:=λσ H Q=>t σ H λc H1=>if c=true then ta σ H1 Q else tb σ H1 Q
theorem zpo {c:Expr} (hc:PT X c tA) (ha:PE X a ta) (hb:PE X b tb):PE X (.IfExp c a b pos) (tIf tA ta tb):=by
 intro pins s σ H Q I h
 refine wpAny_IfExp (thn (hc pins s σ H _ I h) λd s1 ⟨H1,I1,q1⟩=>?_)
 cases d with
 | true=>exact ha pins s1 σ H1 Q I1 q1
 | false=>exact hb pins s1 σ H1 Q I1 q1
end
end L2
namespace L2
open PySem PySem.Spec PyProof.Rows
def SqL (K:PySem.W.Frag) (H:Hp) (a:Addr) (xs:List V):Prop :=
 Rd H a (.lst xs)∨
  ∃(o:Obj) (its:Array Value) (n:Nat),K.lookup a=some o∧o.cls=.type "list"∧o.dict=none∧o.data=.seq its n∧its.size≤sizeLine∧Vals xs its.toList
def SqT (K:PySem.W.Frag) (H:Hp) (a:Addr) (xs:List V):Prop :=
 Rd H a (.tup xs)∨
  ∃(o:Obj) (its:Array Value) (n:Nat),K.lookup a=some o∧o.cls=.type "tuple"∧o.data=.seq its n∧its.size≤sizeLine∧Vals xs its.toList
def absV:Value→Option V
 | .none=>some .non
 | .bool b=>some (.bl b)
 | .int i _=>some (.int i)
 | .str x _=>some (.str x)
 | .bytes b _=>some (.byt b)
 | .float b _=>some (.flt b)
 | .ref a=>some (.ref a)
 | .type n=>some (.ty n)
 | _=>none
theorem RelV.abs {x:V} {u:Value} (r:RelV x u):absV u=some x:=by
 cases x with
 | non=>cases r;rfl
 | bl _=>cases r;rfl
 | int _=>obtain⟨t,rfl⟩:=r;rfl
 | str _=>obtain⟨t,rfl⟩:=r;rfl
 | byt _=>obtain⟨t,rfl⟩:=r;rfl
 | flt _=>obtain⟨t,rfl⟩:=r;rfl
 | ref _=>cases r;rfl
 | ty _=>cases r;rfl
theorem RelV.inj {x y:V} {u:Value} (r:RelV x u) (q:RelV y u):x=y:=Option.some.inj (r.abs.symm.trans q.abs)
theorem Vals.inj:∀{xs ys:List V} {us:List Value},Vals xs us→Vals ys us→xs=ys
 | _,_,_,.nil,.nil=>rfl
 | _,_,_,.cons r t,.cons r' t'=>by rw[r.inj r',Vals.inj t t']
section
variable {X:Cx} {pins:List (Addr×Obj)} {σ:St} {H:Hp} {s:Shared} {a:Addr} {xs ys:List V}
theorem SqL.of {K:PySem.W.Frag} (h:H a=some (.lst xs)):SqL K H a xs:=.inl (.inl h)
theorem SqT.of {K:PySem.W.Frag} (h:H a=some (.tup xs)):SqT K H a xs:=.inl (.inl h)
theorem Inv.list (I:Inv X pins σ H s) (h:SqL X.K H a xs):∃its:List Value,Vals xs its∧PlainL s.heap a its.toArray∧xs.length≤sizeLine:=by
 rcases h with h|⟨o,its,n,hk,hc,hd,hs,hz,r⟩
 ·obtain⟨z,its,n,r,e⟩:=h.ok I.hok
  exact⟨its,r,⟨_,n,e,rfl,rfl,rfl⟩,z⟩
 ·refine⟨its.toList,r,⟨o,n,I.kIn a o hk,hc,hd,by simpa using hs⟩,?_⟩
  have e:=r.length
  simp only[Array.length_toList] at e
  omega
theorem Inv.tuple (I:Inv X pins σ H s) (h:SqT X.K H a xs):∃its:List Value,Vals xs its∧IsTup s.heap a its.toArray∧xs.length≤sizeLine:=by
 rcases h with h|⟨o,its,n,hk,hc,hs,hz,r⟩
 ·obtain⟨z,its,r,p⟩:=h.ok I.hok
  exact⟨its,r,p,z⟩
 ·refine⟨its.toList,r,⟨o,I.kIn a o hk,hc,n,by simpa using hs⟩,?_⟩
  have e:=r.length
  simp only[Array.length_toList] at e
  omega
theorem Inv.zjM (I:Inv X pins σ H s) (h:SqL X.K H a xs) (h':SqL X.K H a ys):xs=ys:=by
 obtain⟨its,r,⟨o,n,e,_,_,d⟩,_⟩:=I.list h
 obtain⟨its',r',⟨o',n',e',_,_,d'⟩,_⟩:=I.list h'
 rw[e] at e';cases e'
 rw[d] at d'
 injection d' with d1 _
 have:its=its':=by simpa using congrArg Array.toList d1
 subst this
 exact r.inj r'
end
section
variable {X:Cx} {pins:List (Addr×Obj)} {σ:St} {H:Hp} {s:Shared} {E:Value→Shared→Prop}
end
section
variable {X:Cx} {st:Stmt} {rest:List Stmt} {t u:TS} {e:Expr} {te:TE} {pos:Pos}
def tNext:TS:=λD σ H=>D.nx σ H
def tSeq (t u:TS):TS:=λD σ H=>t { D with nx:=u D } σ H
theorem zag:PSs X [] tNext:=λ_ _ σ H _ I h=>wpAny_execs_nil ⟨σ,H,I,h⟩
theorem za2 (h1:PS X st t) (h2:PSs X rest u):PSs X (st::rest) (tSeq t u):=by
 intro pins s σ H D I h
 refine wpAny_execs_cons (thn (h1 pins s σ H { D with nx:=u D } I h) λf s1 q=>?_)
 cases f with
 | next =>
  obtain⟨σ',H',I',q⟩:=q
  exact h2 pins s1 σ' H' D I' q
 | ret v=>exact q
 | brk=>exact q
 | cont=>exact q
theorem za5 (h1:PS X st t):PSs X [st] t:=by
 intro pins s σ H D I h
 refine wpAny_execs_cons (thn (h1 pins s σ H D I h) λf s1 q=>?_)
 cases f with
 | next=>exact wpAny_execs_nil q
 | ret v=>exact q
 | brk=>exact q
 | cont=>exact q
def tBreak:TS:=λD σ H=>D.bk σ H
theorem zpk:PS X (.Break pos) tBreak:=λ_ _ σ H _ I h=>wpAny_Break ⟨σ,H,I,h⟩
theorem Inv.quiet {pins:List (Addr×Obj)} {σ:St} {H:Hp} {s:Shared} (I:Inv X pins σ H s):interactive X.env=false:=by simp[interactive,I.ok.kind]
def tDrop (te:TE):TS:=λD σ H=>te σ H λ_ H1=>D.nx σ H1
theorem zaA (he:PE X e te) (hs:swapsWith e none pos.line X.env=pure false:=by rfl):PS X (.Expr e pos) (tDrop te):=by
 intro pins s σ H D I h
 exact wpAny_Expr_any (thn (he pins s σ H _ I h) λv s1 ⟨x,H1,I1,r1,q1⟩=>⟨σ,H1,I1,q1⟩) I.quiet hs
def tRet (te:TE):TS:=λD σ H=>te σ H D.rt
theorem zac (he:PE X e te):PS X (.Return (some e) pos) (tRet te):=by
 intro pins s σ H D I h
 exact wpAny_Return_some (thn (he pins s σ H _ I h) λv s1 ⟨x,H1,I1,r1,q1⟩=>⟨x,σ,H1,I1,r1,q1⟩)
def tRetN:TS:=λD _ H=>D.rt .non H
theorem zqi:PS X (.Return none pos) tRetN:=λ_ _ σ H _ I h=>wpAny_Return_none ⟨.non,σ,H,I,rfl,h⟩
def tIfS (c:TT) (t u:TS):TS:=λD σ H=>c σ H λb H1=>if b=true then t D σ H1 else u D σ H1
theorem ps_if {c:Expr} {a b:List Stmt} {tc:TT} (hc:PT X c tc) (ha:PSs X a t) (hb:PSs X b u):PS X (.If c a b pos) (tIfS tc t u):=by
 intro pins s σ H D I h
 refine wpAny_If (thn (hc pins s σ H _ I h) λd s1 ⟨H1,I1,q1⟩=>?_)
 cases d with
 | true=>exact ha pins s1 σ H1 D I1 q1
 | false=>exact hb pins s1 σ H1 D I1 q1
def tNever:TS:=λ_ _ _=>False
theorem zpj:PS X st tNever:=λ_ _ _ _ _ _ h=>h.elim
end
abbrev TG:=V→St→Hp→(St→Hp→Prop)→Prop
abbrev TGs:=List V→St→Hp→(St→Hp→Prop)→Prop
def PG (X:Cx) (target:Expr) (t:TG):Prop :=
 ∀(pins:List (Addr×Obj)) (s:Shared) (σ:St) (H:Hp) (v:V) (u:Value) (Q:St→Hp→Prop),Inv X pins σ H s→RelV v u→t v σ H Q→
  wpAny (model X.prog X.w) X.A (assign target X.env u) (λ_ s'=>∃σ' H',Inv X pins σ' H' s'∧Q σ' H') X.xe s
def PGs (X:Cx) (ts:List Expr) (t:TGs):Prop :=
 ∀(pins:List (Addr×Obj)) (s:Shared) (σ:St) (H:Hp) (vs:List V) (us:List Value) (Q:St→Hp→Prop),Inv X pins σ H s→Vals vs us→t vs σ H Q→
  wpAny (model X.prog X.w) X.A (assignInOrder ((assignEach ts X.env).map (·.2)) us) (λ_ s'=>∃σ' H',Inv X pins σ' H' s'∧Q σ' H') X.xe s
abbrev TIp:=V→V→Hp→VK→Prop
def PIp (X:Cx) (op:Operator) (t:TIp):Prop :=
 ∀(pins:List (Addr×Obj)) (s:Shared) (σ:St) (H:Hp) (x y:V) (v u:Value) (Q:VK),Inv X pins σ H s→RelV x v→RelV y u→t x y H Q→
  wpAny (model X.prog X.w) X.A (inplaceOp op v u) (EP X pins σ Q) X.xe s
section
variable {X:Cx} {pos:Pos}
def gName (i:Nat):TG:=λv σ H Q=>Q (σ.set i (some v)) H
theorem zaj {i:Nat} {x:Str} (hN:X.N.Nodup) (hi:X.N[i]?=some x) (hx:Loc X.env.scope x) (hf:X.fn x=true∨X.env.scope.names.lookup x=some .local:=by first|exact .inl rfl|exact .inr rfl|assumption):PG X (.Name x pos) (gName i):=by
 intro pins s σ H v u Q I r h
 exact wpAny_assign_Name (zjl I hN hi hx r (λs' I'=>⟨_,H,I',h⟩) hf)
def gNil:TGs:=λvs σ H Q=>vs=[]∧Q σ H
def gCons (t:TG) (u:TGs):TGs:=λvs σ H Q=>∃v r,vs=v::r∧t v σ H λσ' H'=>u r σ' H' Q
theorem zde:PGs X [] gNil:=by
 intro pins s σ H vs us Q I r h
 obtain⟨e,h⟩:=h
 subst e
 cases r
 exact assignInOrder_nil ⟨σ,H,I,h⟩
theorem zax {e:Expr} {es:List Expr} {t:TG} {u:TGs} (h1:PG X e t) (h2:PGs X es u)
  (hs:(assignEach (e::es) X.env).map (·.2)=assign e X.env::(assignEach es X.env).map (·.2):=by rfl):PGs X (e::es) (gCons t u):=by
 intro pins s σ H vs us Q I r h
 obtain⟨v,vr,e1,h⟩:=h
 subst e1
 cases r with
 | cons r rr =>
  rw[hs]
  refine assignInOrder_cons (thn (h1 pins s σ H _ _ _ I r h) λ_ s1 ⟨σ1,H1,I1,q1⟩=>?_)
  exact h2 pins s1 σ1 H1 _ _ Q I1 rr q1
def gTup (K:PySem.W.Frag) (n:Nat) (t:TGs):TG:=λv σ H Q=>∃a xs,v=.ref a∧SqT K H a xs∧xs.length=n∧t xs σ H Q
theorem zgJ {es:List Expr} {k:Nat} {t:TGs} {n:Nat} (hc:X.calm=true) (h:PGs X es t)
  (hn:(assignEach es X.env).length=n:=by rfl) (hst:(assignEach es X.env).findIdx? (·.1)=none:=by rfl):PG X (.Tuple es k pos) (gTup X.K n t):=by
 intro pins s σ H v u Q I r hw
 obtain⟨a,xs,e1,hq,hl,hw⟩:=hw
 subst e1
 cases r
 obtain⟨its,rv,ht,hz⟩:=I.tuple hq
 refine assign_Tuple_tuple (I.ok.hd hc) ht (by simp[hn,←hl,rv.length]) hst λh' hx=>?_
 have I1:Inv X pins σ H { s with heap:=h' }:=I.kept (t':=s.toks) λb o e=>hx b o (Nat.ne_of_lt (Heap.lt_size e)) e
 exact h pins _ σ H xs _ Q I1 (by simpa using rv) hw
def tAsg (te:TE) (g:TG):TS:=λD σ H=>te σ H λx H1=>g x σ H1 D.nx
theorem zah {i:Nat} {x:Str} {e:Expr} {te:TE} {pos':Pos} (hN:X.N.Nodup) (hi:X.N[i]?=some x) (hx:Loc X.env.scope x) (he:PE X e te) (hs:swapsWith e (some (.Name x pos')) pos.line X.env=pure false:=by rfl) (hf:X.fn x=true∨X.env.scope.names.lookup x=some .local:=by first|exact .inl rfl|exact .inr rfl|assumption) :
  PS X (.Assign [.Name x pos'] e pos) (tAsg te (gName i)):=by
 intro pins s σ H D I h
 refine wpAny_Assign_Name (thn (he pins s σ H _ I h) λv s1 ⟨y,H1,I1,r1,q1⟩=>?_) hs
 exact zjl I1 hN hi hx r1 (λs2 I2=>⟨_,H1,I2,q1⟩) hf
def tAug (i:Nat) (te:TE) (ti:TIp):TS:=λD σ H=>∃x,σ[i]?=some (some x)∧te σ H λy H1=>ti x y H1 λz H2=>D.nx (σ.set i (some z)) H2
theorem znH {i:Nat} {x:Str} {e:Expr} {te:TE} {op:Operator} {ti:TIp} {pos':Pos} (hN:X.N.Nodup) (hi:X.N[i]?=some x) (hx:Loc X.env.scope x) (he:PE X e te) (ho:PIp X op ti) (hf:X.fn x=true∨X.env.scope.names.lookup x=some .local:=by first|exact .inl rfl|exact .inr rfl|assumption) :
  PS X (.AugAssign (.Name x pos') op e pos) (tAug i te ti):=by
 intro pins s σ H D I h
 obtain⟨v,e1,h⟩:=h
 obtain⟨m,hn,hl⟩:=I.loc
 have vis:Vis X.env.scope x:=by rcases hx with k|k;exact .inl k;exact .inr (.inl k)
 obtain⟨u,r,l⟩:=hl i x v hi e1 vis
 refine wpAny_AugAssign_Name ?_
 have go:wpAny (model X.prog X.w) X.A (eval e X.env) (λw s₂=>wpAny (model X.prog X.w) X.A (inplaceOp op u w) (λr s₃=>wpAny (model X.prog X.w) X.A (storeName X.env x r) (λ_=>SP X pins D .next) X.xe s₃) X.xe s₂) X.xe s:=by
  refine thn (he pins s σ H _ I h) λw s1 ⟨y,H1,I1,r1,q1⟩=>?_
  refine thn (ho pins s1 σ H1 v y u w _ I1 r r1 q1) λz s2 ⟨zv,H2,I2,r2,q2⟩=>?_
  exact zjl I2 hN hi hx r2 (λs3 I3=>⟨_,H2,I3,q2⟩) hf
 rcases l with ⟨hk,hm⟩|⟨hk,c,hc,hcell⟩
 ·exact wpAny_loadName_local I.ok.kind hk hn hm go
 ·rcases hk with hk|hk
  ·exact wpAny_loadName_cell I.ok.kind hk hc hcell go
  ·rcases hx with k|k
   ·have:X.env.scope.names.lookup x=some .free:=hk
    rw[k] at this;cases this
   ·have:X.env.scope.names.lookup x=some .free:=hk
    rw[k] at this;cases this
def ipI (f:Int→Int→Int):TIp:=λx y H Q=>∃i j,x=.int i∧y=.int j∧Q (.int (f i j)) H
theorem zoe:PIp X .Add (ipI λi j=>i+j):=by
 intro pins s σ H x y v u Q I r1 r2 h
 obtain⟨i,j,e1,e2,q⟩:=h
 subst e1;subst e2
 obtain⟨t,rfl⟩:=r1
 obtain⟨t',rfl⟩:=r2
 exact iadd_int ⟨.int _,H,I.tok _,⟨_,rfl⟩,q⟩
end
section
variable {X:Cx} {pos:Pos}
def tWhile (c:TT) (tb:TS):TS:=λD σ H=>∃W:Nat→St→Hp→Prop,(∃m,W m σ H)∧∀m σ H,W m σ H→
 c σ H λb H1=>if b=true then ∃N:St→Hp→Prop,(∀σ' H',N σ' H'→∃m',m' < m∧W m' σ' H')∧tb { D with nx:=N,ct:=N,bk:=D.nx } σ H1 else D.nx σ H1
theorem zml {c:Expr} {body:List Stmt} {tc:TT} {tb:TS} (hp:PassesOwn (model X.prog X.w) X.A X.env X.xe) (hc:PT X c tc) (hb:PSs X body tb):PS X (.While c body [] pos) (tWhile tc tb):=by
 intro pins s σ H D I h
 obtain⟨W,⟨m0,w0⟩,turn⟩:=h
 refine wpAny_While (codeAny_whileLoop (λn s'=>∃σ' H',Inv X pins σ' H' s'∧W n σ' H') ?_ m0 ⟨σ,H,I,w0⟩)
 rintro n s1 ⟨σ1,H1,I1,w1⟩
 refine wpAny_passesOwn hp (thn (hc pins s1 σ1 H1 _ I1 (turn n σ1 H1 w1)) λb s2 ⟨H2,I2,q2⟩=>?_)
 cases b with
 | true =>
  obtain⟨N,hN,q2⟩:=q2
  rw[if_pos rfl]
  refine wpAny_passesOwn hp (thn (hb pins s2 σ1 H2 _ I2 q2) λf s3 q3=>?_)
  cases f with
  | next =>
   obtain⟨σ3,H3,I3,n3⟩:=q3
   obtain⟨m',hm,w3⟩:=hN σ3 H3 n3
   exact⟨m',hm,σ3,H3,I3,w3⟩
  | cont =>
   obtain⟨σ3,H3,I3,n3⟩:=q3
   obtain⟨m',hm,w3⟩:=hN σ3 H3 n3
   exact⟨m',hm,σ3,H3,I3,w3⟩
  | brk=>exact q3
  | ret v=>exact q3
 | false =>
  rw[if_neg Bool.false_ne_true]
  exact wpAny_execs_nil ⟨σ1,H2,I2,q2⟩
end
structure It where
 go:Nat→Hp→Prop
 yld:Nat→Hp→V→Hp→Prop
 stop:Nat→Hp→Prop
def FpOk (X:Cx) (pins:List (Addr×Obj)) (H:Hp) (b:Addr):Prop :=
 H b=none∧b≠X.env.locals∧b∉X.fs∧(b∈X.ex∨X.s_0.heap.objs.size≤b)∧(∀x c,X.env.cells.lookup x=some c→c≠b)∧∀p∈X.pn++pins,p.1≠b
theorem Inv.fpOk {X:Cx} {pins:List (Addr×Obj)} {σ:St} {H H':Hp} {s:Shared} {b:Addr} (I:Inv X pins σ H s) (hb:s.heap.objs.size≤b) (hn:H' b=none):FpOk X pins H' b:=by
 refine⟨hn,Nat.ne_of_gt (Nat.lt_of_lt_of_le I.lt hb),I.nofs hb,.inr (Nat.le_trans I.sz hb),λx c e z=>?_,λp hp z=>?_⟩
 ·obtain⟨v,q⟩:=I.cell x c e
  exact absurd (Nat.lt_of_lt_of_le q.lt (by rw[z];exact hb)) (Nat.lt_irrefl _)
 ·exact absurd (Nat.lt_of_lt_of_le (Heap.lt_size (I.pin p hp).1) (by rw[z];exact hb)) (Nat.lt_irrefl _)
structure Turn (P:Program) (w:World) (K:PySem.W.Frag) (tg:Expr) (J:It) (fp:List Addr) (it:Addr) (tn:Nat→Heap→Prop):Prop where
 mem:it∈fp
 obj:∀i h,tn i h→∀b∈fp,∃o,h.get? b=some o∧∀v,o.data≠.cell v
 keep:∀i h h',tn i h→(∀b∈fp,∀o,h.get? b=some o→h'.get? b=some o)→tn i h'
 item:∀(X:Cx),X.prog=P→X.w=w→X.K=K→X.calm=true→∀(i:Nat) (pins:List (Addr×Obj)) (s:Shared) (σ:St) (H:Hp) (E:Value→Shared→Prop),Inv X pins σ H s→(∀b∈fp,FpOk X pins H b)→tn i s.heap→J.go i H→
  wpAny (model P w) X.A (pyNext (.ref it)) (λr s1=>∃u,r=some u∧
   wpAny (model P w) X.A (letOwnedTupleGo tg (.ref it) u) (λ_ s2=>∃x H',Inv X pins σ H' s2∧RelV x u∧J.yld i H x H'∧tn (i+1) s2.heap∧∀b∈fp,H' b=none) E s1) E s
 done:∀(X:Cx),X.prog=P→X.w=w→X.K=K→X.calm=true→∀(i:Nat) (pins:List (Addr×Obj)) (s:Shared) (σ:St) (H:Hp) (E:Value→Shared→Prop),Inv X pins σ H s→(∀b∈fp,FpOk X pins H b)→tn i s.heap→J.stop i H→
  wpAny (model P w) X.A (pyNext (.ref it)) (λr s1=>r=none∧Inv X pins σ H s1) E s
 self:∀(A:Around) (i:Nat) (s:Shared) (Q:Value→Shared→Prop) (E:Value→Shared→Prop),tn i s.heap→Q (.ref it) s→wpAny (model P w) A (pyIter (.ref it)) Q E s
abbrev TI:=St→Hp→(It→Hp→Prop)→Prop
def PIE (X:Cx) (pins:List (Addr×Obj)) (σ:St) (tg:Expr) (R:It→Hp→Prop) (itv:Value) (s2:Shared):Prop :=
 ∃(it:Addr) (fp:List Addr) (tn:Nat→Heap→Prop) (J:It) (H':Hp),itv=.ref it∧Inv X pins σ H' s2∧Turn X.prog X.w X.K tg J fp it tn∧tn 0 s2.heap∧(∀b∈fp,FpOk X pins H' b)∧R J H'
def PI (X:Cx) (tg iter:Expr) (wi:TI):Prop :=
 ∀(pins:List (Addr×Obj)) (s:Shared) (σ:St) (H:Hp) (R:It→Hp→Prop),Inv X pins σ H s→wi σ H R→
  wpAny (model X.prog X.w) X.A (eval iter X.env) (λv s1=>wpAny (model X.prog X.w) X.A (pyIter v) (PIE X pins σ tg R) X.xe s1) X.xe s
theorem go_of {M:Model} {A:Around} {E:Value→Shared→Prop} {s:Shared} {tg:Expr} {it:Addr} {u:Value} {o:Obj} {n:String} {vs:Array Value} {Q:Unit→Shared→Prop} (ho:s.heap.get? it=some o) (hc:o.cls=.type n) (hd:o.data=.fields vs)
  (hn:["enumerate","zip","dict_itemiterator","dict_reverseitemiterator","odict_iterator","itertools.zip_longest","itertools.pairwise"].contains n=false) (hQ:Q () s):wpAny M A (letOwnedTupleGo tg (.ref it) u) Q E s:=by
 unfold letOwnedTupleGo
 cases tg<;>first
  | exact wpAny_pure hQ
  | (cases u<;>first
    | exact wpAny_pure hQ
    | (
      refine wpAny_bind (wpAny_load ho ?_)
      rw[hc,hd]
      show wpAny M A (if (["enumerate","zip","dict_itemiterator","dict_reverseitemiterator","odict_iterator","itertools.zip_longest","itertools.pairwise"].contains n && vs[0]? == some (rawInt _))=true then _ else _) Q E s
      rw[if_neg (by intro h;rw[hn,Bool.false_and] at h;cases h)]
      exact wpAny_pure hQ))
def Itl (K:PySem.W.Frag) (a:Addr):It :=
 ⟨λi H=>∃xs x,SqL K H a xs∧xs[i]?=some x,λi H x H'=>H'=H∧∀xs,SqL K H a xs→xs[i]?=some x,λi H=>∃xs,SqL K H a xs∧xs.length≤i⟩
def Itr (lo:Int) (n:Nat):It:=⟨λi _=>i < n,λi H x H'=>H'=H∧x=.int (lo+i),λi _=>n≤i⟩
theorem znx {P:Program} {w:World} {K:PySem.W.Frag} {tg:Expr} (a it:Addr):Turn P w K tg (Itl K a) [it] it (λi h=>h.IsListIter it a i) where
 mem:=by simp
 obj:=λi h st b hb=>by
  have e:b=it:=by simpa using hb
  subst e
  obtain⟨o,e,c,d⟩:=st
  exact⟨o,e,λv z=>by rw[d] at z;cases z⟩
 keep:=λi h h' st k=>st.at λo e=>k it (by simp) o e
 item:=by
  intro X hP hw hK hc i pins s σ H E I hf st hg
  subst hP hw hK
  obtain⟨xs,x,hq,hx⟩:=hg
  obtain⟨its,rv,p,hz⟩:=I.list hq
  obtain⟨u,hu,ru⟩:=rv.get hx
  obtain⟨f0,f1,f2,f3,f4,f5⟩:=hf it (by simp)
  refine wpAny_pyNext_list_item st p.isList (x:=u) (by simpa using hu) λh' st' sb=>?_
  have I1:Inv X pins σ H { s with heap:=h' }:=I.turned (t':=s.toks) (λb o hb e=>(sb.2 b hb).trans e) f0 f1 f3 f4 f5
  obtain⟨o,e,c,d⟩:=id st'
  exact⟨u,rfl,go_of (s:={ s with heap:=h' }) e c d (by decide) ⟨x,H,I1,ru,⟨rfl,λys hy=>by rw[I.zjM hy hq];exact hx⟩,st',λb hb=>(hf b hb).1⟩⟩
 done:=by
  intro X hP hw hK hc i pins s σ H E I hf st hg
  subst hP hw hK
  obtain⟨xs,hq,hx⟩:=hg
  obtain⟨its,rv,p,hz⟩:=I.list hq
  obtain⟨f0,f1,f2,f3,f4,f5⟩:=hf it (by simp)
  have hl:=rv.length
  exact wpAny_pyNext_list_end (I.ok.hd hc) st p.isList (by simp;omega) λh' eb=>⟨rfl,I.turned (t':=s.toks) (λb o hb e=>eb b o hb e) f0 f1 f3 f4 f5⟩
 self:=λ_ _ _ _ _ st h=>wpAny_pyIter_listiter st h
theorem zmK {P:Program} {w:World} {K:PySem.W.Frag} {tg:Expr} (it:Addr) (lo:Int) (n:Nat):Turn P w K tg (Itr lo n) [it] it (λi h=>IsRangeIter h it (lo+(i:Nat) * 1) ((n:Int) - (i:Nat)) 1) where
 mem:=by simp
 obj:=λi h st b hb=>by
  have e:b=it:=by simpa using hb
  subst e
  exact⟨_,st,λv z=>by
   have z':Data.fields _=Data.cell v:=z
   cases z'⟩
 keep:=λi h h' st k=>k it (by simp) _ st
 item:=by
  intro X hP hw hK hc i pins s σ H E I hf st hg
  subst hP hw hK
  obtain⟨f0,f1,f2,f3,f4,f5⟩:=hf it (by simp)
  have W:=Walks.range (prog:=X.prog) (w:=X.w) (I.ok.hd hc) it lo 1 n
  refine W.item i s _ _ hg st λv h' tk hv st' kk=>?_
  obtain⟨t,rfl⟩:=hv
  have I1:Inv X pins σ H { s with heap:=h',toks:=tk }:=I.turned (λb o hb e=>kk b o (by simpa using hb) e) f0 f1 f3 f4 f5
  refine⟨_,rfl,go_of (s:={ s with heap:=h',toks:=tk }) (n:="range_iterator") st' rfl rfl (by decide) ⟨.int (lo+i),H,I1,⟨t,?_⟩,⟨rfl,rfl⟩,st',λb hb=>(hf b hb).1⟩⟩
  rw[Int.mul_one]
 done:=by
  intro X hP hw hK hc i pins s σ H E I hf st hg
  subst hP hw hK
  obtain⟨f0,f1,f2,f3,f4,f5⟩:=hf it (by simp)
  exact wpAny_pyNext_range_end (I.ok.hd hc) st (by have:n≤i:=hg;omega) λh' eb=>⟨rfl,I.turned (t':=s.toks) (λb o hb e=>eb b o hb e) f0 f1 f3 f4 f5⟩
 self:=λ_ _ _ _ _ st h=>wpAny_pyIter_rangeiter st h
end L2
namespace L2
open PySem PySem.Spec PyProof.Rows
section
variable {X:Cx} {tg:Expr}
def iList (K:PySem.W.Frag) (tl:TE):TI:=λσ H R=>tl σ H λx H1=>∃a,x=.ref a∧(∃xs,SqL K H1 a xs)∧R (Itl K a) H1
theorem zaE {l:Expr} {tl:TE} (hl:PE X l tl):PI X tg l (iList X.K tl):=by
 intro pins s σ H R I h
 refine thn (hl pins s σ H _ I h) λv s1 ⟨x,H1,I1,r1,q1⟩=>?_
 obtain⟨a,e,⟨xs,hq⟩,q⟩:=q1
 subst e
 cases r1
 obtain⟨its,rv,p,hz⟩:=I1.list hq
 refine wpAny_pyIter_list p.isList ?_
 refine⟨s1.heap.objs.size,[s1.heap.objs.size],_,_,H1,rfl,I1.kept (t':=s1.toks) λb o e=>Heap.get?_push_of_some _ e,znx a _,⟨_,Heap.get?_push_size _ rfl,rfl,rfl⟩,λb hb=>?_,q⟩
 have e:b=s1.heap.objs.size:=by simpa using hb
 subst e
 exact I1.fpOk (Nat.le_refl _) (I1.hok.fresh (Nat.le_refl _))
theorem zpg {pins:List (Addr×Obj)} {σ:St} {H:Hp} {s:Shared} {R:It→Hp→Prop} {E:Value→Shared→Prop} {lo hi:Int} {t u v:Tok} {tk:Nat} (I:Inv X pins σ H s) (h1:-(2 ^ 62)≤lo) (h2:lo < 2 ^ 62) (h3:-(2 ^ 62)≤hi) (h4:hi < 2 ^ 62)
  (q:R (Itr lo (hi - lo).toNat) H):wpAny (model X.prog X.w) X.A (pyIter (.ref s.heap.objs.size)) (PIE X pins σ tg R) E { s with heap:=s.heap.push { cls:=.type "range",data:=.fields #[.int lo t,.int hi u,.int 1 v] },toks:=tk }:=by
 refine wpAny_pyIter_range (IsRange.new ..) (small_one h1 h2 h3 h4) ?_
 have I1:Inv X pins σ H { s with heap:=s.heap.push { cls:=.type "range",data:=.fields #[.int lo t,.int hi u,.int 1 v] },toks:=tk }:=I.kept λb o e=>Heap.get?_push_of_some _ e
 refine⟨(s.heap.push { cls:=.type "range",data:=.fields #[.int lo t,.int hi u,.int 1 v] }).objs.size,[(s.heap.push { cls:=.type "range",data:=.fields #[.int lo t,.int hi u,.int 1 v] }).objs.size],_,_,H,rfl,
  I1.kept (t':=tk) λb o e=>Heap.get?_push_of_some _ e,zmK _ lo (hi - lo).toNat,?_,λb hb=>?_,q⟩
 ·have e1:lo+((0:Nat):Int) * 1=lo:=by simp
  have e2:(((hi - lo).toNat:Nat):Int) - ((0:Nat):Int)=Builtin.Range.rangeSize lo hi 1:=by rw[rangeSize_one];split<;>omega
  show IsRangeIter _ _ (lo+((0:Nat):Int) * 1) ((((hi - lo).toNat:Nat):Int) - ((0:Nat):Int)) 1
  rw[e1,e2]
  exact Heap.get?_push_size _ rfl
 ·have e:b=(s.heap.push { cls:=.type "range",data:=.fields #[.int lo t,.int hi u,.int 1 v] }).objs.size:=by simpa using hb
  subst e
  exact I1.fpOk (Nat.le_refl _) (I1.hok.fresh (Nat.le_refl _))
def iRng2 (ta:TA):TI:=λσ H R=>ta σ H λvs H1=>∃i j:Int,vs=[.int i,.int j]∧(-(2 ^ 62)≤i∧i < 2 ^ 62∧-(2 ^ 62)≤j∧j < 2 ^ 62)∧R (Itr i (j - i).toNat) H1
theorem zku {a b:Expr} {ta:TA} {p pos:Pos} (hg:Gl X "range") (hm:X.mg "range"=none) (ha:PA X [a,b] ta) (hs:starEach [a,b] X.env=[(false,eval a X.env),(false,eval b X.env)]:=by rfl) (hs2:starEach [b] X.env=[(false,eval b X.env)]:=by rfl) :
  PI X tg (.Call (.Name "range" p) [a,b] [] pos) (iRng2 ta):=by
 intro pins s σ H R I h
 refine Call_ (zgM I hg hm boot_range (PyProof.Rows.callWith_type1 (thn (ha pos pins s σ H _ I h) λus s1 ⟨vs,H1,I1,r1,q1⟩=>?_) (by rw[hs,hs2]) (by rw[hs2];rfl)))
 obtain⟨i,j,e,⟨q1,q2,q3,q4⟩,q⟩:=q1
 subst e
 cases r1 with
 | cons r rr =>
  cases rr with
  | cons r' rr =>
   cases rr
   obtain⟨t,rfl⟩:=r
   obtain⟨t',rfl⟩:=r'
   exact call_range_2 (zpg I1 q1 q2 q3 q4 q)
def tFor (wi:TI) (g:TG) (tb:TS):TS:=λD σ H=>wi σ H λJ H1=>∃W:Nat→Nat→St→Hp→Prop,(∃m,W 0 m σ H1)∧∀i m σ H,W i m σ H→
 (J.stop i H∧D.nx σ H)∨(J.go i H∧∃N:St→Hp→Prop,(∀σ' H',N σ' H'→∃m',m' < m∧W (i+1) m' σ' H')∧∀x H',J.yld i H x H'→g x σ H' λσ2 H2=>tb { D with nx:=N,ct:=N,bk:=D.nx } σ2 H2)
def pinsAt (fp:List Addr) (h:Heap):List (Addr×Obj):=fp.filterMap λb=>(h.get? b).map λo=>(b,o)
theorem zg4 {fp:List Addr} {h:Heap} {b:Addr} {o:Obj} (hb:b∈fp) (e:h.get? b=some o):(b,o)∈pinsAt fp h:=List.mem_filterMap.mpr ⟨b,hb,by rw[e];rfl⟩
theorem znV {fp:List Addr} {h:Heap} {p:Addr×Obj} (hp:p∈pinsAt fp h):p.1∈fp∧h.get? p.1=some p.2:=by
 obtain⟨b,hb,e⟩:=List.mem_filterMap.mp hp
 cases q:h.get? b with
 | none=>rw[q] at e;cases e
 | some o =>
  rw[q] at e
  have e':(b,o)=p:=Option.some.inj e
  subst e'
  exact⟨hb,q⟩
theorem Inv.pinned {pins:List (Addr×Obj)} {σ:St} {H:Hp} {s:Shared} {fp:List Addr} (I:Inv X pins σ H s) (hf:∀b∈fp,FpOk X pins H b) (ho:∀b∈fp,∃o,s.heap.get? b=some o∧∀v,o.data≠.cell v):Inv X (pins++pinsAt fp s.heap) σ H s :=
 I.znK λp hp=>(List.mem_append.mp hp).elim (λz=>I.pin p (List.mem_append_right _ z)) λz=>by
  obtain⟨hb,e⟩:=znV z
  obtain⟨f0,f1,f2,_⟩:=hf p.1 hb
  obtain⟨o,e',d⟩:=ho p.1 hb
  rw[e] at e';cases e'
  exact⟨e,f0,f1,f2,d⟩
theorem Inv.unpinned {pins pl:List (Addr×Obj)} {σ:St} {H:Hp} {s:Shared} (I:Inv X (pins++pl) σ H s):Inv X pins σ H s:=I.znK λp hp=>I.pin p (List.mem_append_right _ (List.mem_append_left _ hp))
theorem zbB {iter:Expr} {body:List Stmt} {wi:TI} {g:TG} {tb:TS} {pos:Pos} (hp:PassesOwn (model X.prog X.w) X.A X.env X.xe) (hc:X.calm=true) (hi:PI X tg iter wi) (hg:PG X tg g) (hb:PSs X body tb)
  (hs:∀x,foldedSetIterable iter X.env x=pure x:=by intro _;rfl):PS X (.For tg iter body [] pos) (tFor wi g tb):=by
 intro pins s σ H D I h
 refine wpAny_For (thn (hi pins s σ H _ I h) λv s1 h1=>thn h1 λitv s2 h2=>?_) hs
 obtain⟨it,fp,tn,J,H2,e,I2,T,st2,f2,W,⟨m0,w0⟩,turn⟩:=h2
 subst e
 have stat:∀{H':Hp},(∀b∈fp,H' b=none)→∀b∈fp,FpOk X pins H' b:=λhn b hb=>⟨hn b hb,(f2 b hb).2⟩
 refine codeAny_forLoop_any (λn s'=>∃i σ' H',Inv X pins σ' H' s'∧tn i s'.heap∧(∀b∈fp,H' b=none)∧W i n σ' H') ?_ m0 ⟨0,σ,H2,I2,st2,λb hb=>(f2 b hb).1,w0⟩
 rintro n s3 ⟨i,σ3,H3,I3,st3,fr3,w3⟩
 rcases turn i n σ3 H3 w3 with ⟨stop,qn⟩|⟨go,N,hN,step⟩
 ·refine wpAny_passesOwn hp (thn (T.done X rfl rfl rfl hc i pins s3 σ3 H3 X.xe I3 (stat fr3) st3 stop) λr s4 ⟨hr,I4⟩=>?_)
  subst hr
  exact wpAny_execs_nil ⟨σ3,H3,I4,qn⟩
 ·refine wpAny_passesOwn hp (thn (T.item X rfl rfl rfl hc i pins s3 σ3 H3 X.xe I3 (stat fr3) st3 go) λr s4 ⟨u,hr,h4⟩=>?_)
  subst hr
  refine wpAny_passesOwn hp (thn h4 λ_ s5 ⟨x,H5,I5,r5,y5,st5,fr5⟩=>?_)
  have I5':=I5.pinned (stat fr5) (T.obj _ _ st5)
  refine wpAny_passesOwn hp (thn (hg _ s5 σ3 H5 x u _ I5' r5 (step x H5 y5)) λ_ s6 ⟨σ6,H6,I6,q6⟩=>?_)
  refine wpAny_passesOwn hp (thn (hb _ s6 σ6 H6 _ I6 q6) λf s7 q7=>?_)
  have again:∀{σ7:St} {H7:Hp},Inv X (pins++pinsAt fp s5.heap) σ7 H7 s7→N σ7 H7→∃m,m < n∧∃i σ' H',Inv X pins σ' H' s7∧tn i s7.heap∧(∀b∈fp,H' b=none)∧W i m σ' H':=λ{σ7 H7} I7 n7=>by
   obtain⟨m',hm,w7⟩:=hN σ7 H7 n7
   refine⟨m',hm,i+1,σ7,H7,I7.unpinned,T.keep _ _ _ st5 λb hb o e=>(I7.pin (b,o) (List.mem_append_right _ (List.mem_append_right _ (zg4 hb e)))).1,λb hb=>?_,w7⟩
   obtain⟨o,e,d⟩:=T.obj _ _ st5 b hb
   exact(I7.pin (b,o) (List.mem_append_right _ (List.mem_append_right _ (zg4 hb e)))).2.1
  cases f with
  | next=>obtain⟨σ7,H7,I7,n7⟩:=q7;exact again I7 n7
  | cont=>obtain⟨σ7,H7,I7,n7⟩:=q7;exact again I7 n7
  | brk=>obtain⟨σ7,H7,I7,q7⟩:=q7;exact⟨σ7,H7,I7.unpinned,q7⟩
  | ret v=>obtain⟨x7,σ7,H7,I7,r7,q7⟩:=q7;exact⟨x7,σ7,H7,I7.unpinned,r7,q7⟩
end
theorem zb0 {K:PySem.W.Frag} {a:Addr} {xs:List V} {g:TG} {tb:TS} {D:Ends} {σ:St} {H:Hp} (Pv:Nat→St→Hp→Prop) (h0:Pv 0 σ H) (hl:∀i σ H,i≤xs.length→Pv i σ H→SqL K H a xs)
  (hs:∀i x σ H,xs[i]?=some x→Pv i σ H→g x σ H λσ2 H2=>tb { D with nx:=Pv (i+1),ct:=Pv (i+1),bk:=D.nx } σ2 H2) (hd:∀σ H,Pv xs.length σ H→D.nx σ H) :
  ∃W:Nat→Nat→St→Hp→Prop,(∃m,W 0 m σ H)∧∀i m σ H,W i m σ H→
   ((Itl K a).stop i H∧D.nx σ H)∨((Itl K a).go i H∧∃N:St→Hp→Prop,(∀σ' H',N σ' H'→∃m',m' < m∧W (i+1) m' σ' H')∧∀x H',(Itl K a).yld i H x H'→g x σ H' λσ2 H2=>tb { D with nx:=N,ct:=N,bk:=D.nx } σ2 H2):=by
 refine⟨λi m σ H=>m=xs.length - i∧i≤xs.length∧Pv i σ H,⟨xs.length,by simp,Nat.zero_le _,h0⟩,?_⟩
 rintro i m σ H ⟨rfl,hi,p⟩
 have q:=hl i σ H hi p
 by_cases hlt:i < xs.length
 ·refine .inr ⟨⟨xs,xs[i],q,by simp[hlt]⟩,Pv (i+1),λσ' H' p'=>⟨xs.length - (i+1),by omega,rfl,hlt,p'⟩,λx H' y=>?_⟩
  obtain⟨e,y⟩:=y
  subst e
  exact hs i x σ _ (y xs q) p
 ·have e:i=xs.length:=by omega
  subst e
  exact .inl ⟨⟨xs,q,Nat.le_refl _⟩,hd σ H p⟩
theorem zoq {lo:Int} {n:Nat} {g:TG} {tb:TS} {D:Ends} {σ:St} {H:Hp} (Pv:Nat→St→Hp→Prop) (h0:Pv 0 σ H)
  (hs:∀i σ H,i < n→Pv i σ H→g (.int (lo+i)) σ H λσ2 H2=>tb { D with nx:=Pv (i+1),ct:=Pv (i+1),bk:=D.nx } σ2 H2) (hd:∀σ H,Pv n σ H→D.nx σ H) :
  ∃W:Nat→Nat→St→Hp→Prop,(∃m,W 0 m σ H)∧∀i m σ H,W i m σ H→
   ((Itr lo n).stop i H∧D.nx σ H)∨((Itr lo n).go i H∧∃N:St→Hp→Prop,(∀σ' H',N σ' H'→∃m',m' < m∧W (i+1) m' σ' H')∧∀x H',(Itr lo n).yld i H x H'→g x σ H' λσ2 H2=>tb { D with nx:=N,ct:=N,bk:=D.nx } σ2 H2):=by
 refine⟨λi m σ H=>m=n - i∧i≤n∧Pv i σ H,⟨n,by simp,Nat.zero_le _,h0⟩,?_⟩
 rintro i m σ H ⟨rfl,hi,p⟩
 by_cases hlt:i < n
 ·refine .inr ⟨hlt,Pv (i+1),λσ' H' p'=>⟨n - (i+1),by omega,rfl,hlt,p'⟩,λx H' y=>?_⟩
  obtain⟨e,y⟩:=y
  subst e y
  exact hs i σ _ hlt p
 ·have e:i=n:=by omega
  subst e
  exact .inl ⟨Nat.le_refl _,hd σ H p⟩
theorem zp2 {c:TT} {tb:TS} {D:Ends} {σ:St} {H:Hp} (Pv:St→Hp→Prop) (μ:St→Hp→Nat) (h0:Pv σ H)
  (hs:∀σ H,Pv σ H→c σ H λb H1=>if b=true then tb { D with nx:=λσ' H'=>Pv σ' H'∧μ σ' H' < μ σ H,ct:=λσ' H'=>Pv σ' H'∧μ σ' H' < μ σ H,bk:=D.nx } σ H1 else D.nx σ H1)
  (mono:∀σ H Q Q',(∀b H1,Q b H1→Q' b H1)→c σ H Q→c σ H Q'):tWhile c tb D σ H:=by
 refine⟨λm σ H=>m=μ σ H∧Pv σ H,⟨_,rfl,h0⟩,?_⟩
 rintro m σ H ⟨rfl,p⟩
 refine mono σ H _ _ (λb H1 q=>?_) (hs σ H p)
 cases b with
 | true=>exact⟨_,λσ' H' ⟨p',l⟩=>⟨_,l,rfl,p'⟩,q⟩
 | false=>exact q
end L2
namespace L2
open PySem PySem.Spec PyProof.Rows
abbrev R2:=V→V→Hp→VK→Prop
def OpR (X:Cx) (f:Value→Value→Sem Value) (r:R2):Prop :=
 ∀(pins:List (Addr×Obj)) (s:Shared) (σ:St) (H:Hp) (x y:V) (v u:Value) (Q:VK),Inv X pins σ H s→RelV x v→RelV y u→r x y H Q→
  wpAny (model X.prog X.w) X.A (f v u) (EP X pins σ Q) X.xe s
def UnR (X:Cx) (f:Value→Sem Value) (r:V→Hp→VK→Prop):Prop :=
 ∀(pins:List (Addr×Obj)) (s:Shared) (σ:St) (H:Hp) (x:V) (v:Value) (Q:VK),Inv X pins σ H s→RelV x v→r x H Q→
  wpAny (model X.prog X.w) X.A (f v) (EP X pins σ Q) X.xe s
def CallR (X:Cx) (f:Value) (r:List V→Hp→VK→Prop):Prop :=
 ∀(pins:List (Addr×Obj)) (s:Shared) (σ:St) (H:Hp) (xs:List V) (us:List Value) (Q:VK),Inv X pins σ H s→Vals xs us→r xs H Q→
  wpAny (model X.prog X.w) X.A (call f us) (EP X pins σ Q) X.xe s
def TruR (X:Cx) (r:V→Hp→(Bool→Hp→Prop)→Prop):Prop :=
 ∀(pins:List (Addr×Obj)) (s:Shared) (σ:St) (H:Hp) (x:V) (v:Value) (Q:Bool→Hp→Prop),Inv X pins σ H s→RelV x v→r x H Q→
  wpAny (model X.prog X.w) X.A (truthy v) (TP X pins σ Q) X.xe s
def tOp (r:R2) (ta tb:TE):TE:=λσ H Q=>ta σ H λx H1=>tb σ H1 λy H2=>r x y H2 Q
def tUn (r:V→Hp→VK→Prop) (ta:TE):TE:=λσ H Q=>ta σ H λx H1=>r x H1 Q
def rI (C:Int→Int→Prop) (g:Int→Int→V):R2:=λx y H Q=>∃i j,x=.int i∧y=.int j∧C i j∧Q (g i j) H
def rI0 (g:Int→Int→V):R2:=λx y H Q=>∃i j,x=.int i∧y=.int j∧Q (g i j) H
def rU (g:Int→V):V→Hp→VK→Prop:=λx H Q=>∃i,x=.int i∧Q (g i) H
section
variable {X:Cx} {a b c:Expr} {ta tb tc:TE} {pos:Pos}
theorem binT (ha:PE X a ta) (hb:PE X b tb) {pins:List (Addr×Obj)} {s:Shared} {σ:St} {H:Hp} {R:V→V→Hp→Prop} (I:Inv X pins σ H s)
  (h:ta σ H λx H1=>tb σ H1 λy H2=>R x y H2) {Q:Value→Shared→Prop} {f:Value→Value→Sem Value}
  (hf:∀v u s2 x y H2,Inv X pins σ H2 s2→RelV x v→RelV y u→R x y H2→wpAny (model X.prog X.w) X.A (f v u) Q X.xe s2) :
  wpAny (model X.prog X.w) X.A (eval a X.env) (λv s₁=>wpAny (model X.prog X.w) X.A (eval b X.env) (λu s₂=>wpAny (model X.prog X.w) X.A (f v u) Q X.xe s₂) X.xe s₁) X.xe s:=by
 refine thn (ha pins s σ H _ I h) λv s1 ⟨x,H1,I1,r1,q1⟩=>?_
 refine thn (hb pins s1 σ H1 _ I1 q1) λu s2 ⟨y,H2,I2,r2,q2⟩=>?_
 exact hf v u s2 x y H2 I2 r1 r2 q2
theorem pe_op {op:Operator} {r:R2} (ho:OpR X (binaryOp op) r) (ha:PE X a ta) (hb:PE X b tb):PE X (.BinOp a op b pos) (tOp r ta tb):=by
 intro pins s σ H Q I h
 exact wpAny_BinOp (binT ha hb I h λv u s2 x y H2 I2 rx ry q=>ho pins s2 σ H2 x y v u Q I2 rx ry q)
theorem pe_un {op:UnaryOp} {r:V→Hp→VK→Prop} (ho:UnR X (unaryOp op) r) (ha:PE X a ta):PE X (.UnaryOp op a pos) (tUn r ta):=by
 intro pins s σ H Q I h
 exact UnaryOp_ (thn (ha pins s σ H _ I h) λv s1 ⟨x,H1,I1,r1,q1⟩=>ho pins s1 σ H1 x v Q I1 r1 q1)
theorem opI {f:Value→Value→Sem Value} {C:Int→Int→Prop} {g:Int→Int→Int}
  (rule:∀(i j:Int) (t u:Tok) (s:Shared) (Q:Value→Shared→Prop) (E:Value→Shared→Prop),C i j→Q (.int (g i j) s.toks) { s with toks:=s.toks+1 }→wpAny (model X.prog X.w) X.A (f (.int i t) (.int j u)) Q E s) :
  OpR X f (rI C λi j=>.int (g i j)):=by
 intro pins s σ H x y v u Q I rx ry h
 obtain⟨i,j,rfl,rfl,hc,q⟩:=h
 obtain⟨t,rfl⟩:=rx
 obtain⟨t',rfl⟩:=ry
 exact rule i j t t' s _ _ hc ⟨.int (g i j),H,I.tok _,⟨_,rfl⟩,q⟩
theorem opI0 {f:Value→Value→Sem Value} {g:Int→Int→Int}
  (rule:∀(i j:Int) (t u:Tok) (s:Shared) (Q:Value→Shared→Prop) (E:Value→Shared→Prop),Q (.int (g i j) s.toks) { s with toks:=s.toks+1 }→wpAny (model X.prog X.w) X.A (f (.int i t) (.int j u)) Q E s) :
  OpR X f (rI0 λi j=>.int (g i j)):=by
 intro pins s σ H x y v u Q I rx ry h
 obtain⟨i,j,rfl,rfl,q⟩:=h
 obtain⟨t,rfl⟩:=rx
 obtain⟨t',rfl⟩:=ry
 exact rule i j t t' s _ _ ⟨.int (g i j),H,I.tok _,⟨_,rfl⟩,q⟩
theorem opB0 {f:Value→Value→Sem Value} {g:Int→Int→Bool}
  (rule:∀(i j:Int) (t u:Tok) (s:Shared) (Q:Value→Shared→Prop) (E:Value→Shared→Prop),Q (.bool (g i j)) s→wpAny (model X.prog X.w) X.A (f (.int i t) (.int j u)) Q E s) :
  OpR X f (rI0 λi j=>.bl (g i j)):=by
 intro pins s σ H x y v u Q I rx ry h
 obtain⟨i,j,rfl,rfl,q⟩:=h
 obtain⟨t,rfl⟩:=rx
 obtain⟨t',rfl⟩:=ry
 exact rule i j t t' s _ _ ⟨.bl (g i j),H,I,rfl,q⟩
def CDiv (i j:Int):Prop:=0 < j∧j < 1073741824
def CMul (i j:Int):Prop:=(-(2 ^ 64) < i∧i < 2 ^ 64)∨(-(2 ^ 64) < j∧j < 2 ^ 64)
theorem CMul.ok {i j:Int} (h:CMul i j):IntMulOk i j:=by
 rcases h with ⟨h1,h2⟩|⟨h1,h2⟩
 ·exact .of_left (intBits_le_64 h1 h2)
 ·exact .of_right (intBits_le_64 h1 h2)
theorem zcm:OpR X (binaryOp .Add) (rI0 λi j=>.int (i+j)):=opI0 λ_ _ _ _ _ _ _ q=>add_int q
theorem zgK:OpR X (binaryOp .Sub) (rI0 λi j=>.int (i - j)):=opI0 λ_ _ _ _ _ _ _ q=>sub_int q
theorem znP:OpR X (binaryOp .Mult) (rI CMul λi j=>.int (i * j)):=opI λ_ _ _ _ _ _ _ hc q=>mul_int q hc.ok
theorem znR:OpR X (binaryOp .FloorDiv) (rI CDiv λi j=>.int (i / j)):=opI λi j _ _ _ _ _ hc q=>by
 have h1:(0:Int) < j:=hc.1
 have h2:j < 1073741824:=hc.2
 exact floordiv_int (by omega) (by rw[Int.fdiv_eq_ediv_of_nonneg i (by omega)];exact q) (.inl (PyProof.noPylong_small (by omega)))
theorem znQ:OpR X (binaryOp .Mod) (rI (λ_ j=>0 < j) λi j=>.int (i % j)):=opI λi j _ _ _ _ _ hc q=>by
 have h1:(0:Int) < j:=hc
 exact mod_int' (by omega) (by rw[Int.fmod_eq_emod_of_nonneg i (by omega)];exact q)
theorem unI {f:Value→Sem Value} {g:Int→Int}
  (rule:∀(i:Int) (t:Tok) (s:Shared) (Q:Value→Shared→Prop) (E:Value→Shared→Prop),Q (.int (g i) s.toks) { s with toks:=s.toks+1 }→wpAny (model X.prog X.w) X.A (f (.int i t)) Q E s) :
  UnR X f (rU λi=>.int (g i)):=by
 intro pins s σ H x v Q I rx h
 obtain⟨i,rfl,q⟩:=h
 obtain⟨t,rfl⟩:=rx
 exact rule i t s _ _ ⟨.int (g i),H,I.tok _,⟨_,rfl⟩,q⟩
theorem zey:UnR X (unaryOp .USub) (rU λi=>.int (-i)):=unI λ_ _ _ _ _ q=>neg_int q
end
def scal:V→V→Bool
 | .non,.non=>true|.non,.int _=>true|.int _,.non=>true|.non,.bl _=>true|.bl _,.non=>true|.non,.str _=>true|.str _,.non=>true
 | .int _,.int _=>true|.bl _,.bl _=>true|.str _,.str _=>true|.byt _,.byt _=>true
 | .int _,.str _=>true|.str _,.int _=>true|.bl _,.str _=>true|.str _,.bl _=>true
 | _,_=>false
def rEq:R2:=λx y H Q=>scal x y=true∧Q (.bl (decide (x=y))) H
def rNe:R2:=λx y H Q=>scal x y=true∧Q (.bl (!decide (x=y))) H
theorem zoB {i j:Int}:decide (V.int i=V.int j)=(i == j):=by
 rw[Bool.eq_iff_iff]
 simp
theorem zq2 {i j:Bool}:decide (V.bl i=V.bl j)=(i == j):=by
 rw[Bool.eq_iff_iff]
 simp
theorem zoA {i j:Str}:decide (V.str i=V.str j)=(i == j):=by
 rw[Bool.eq_iff_iff]
 simp
theorem zoC {i j:Array UInt8}:decide (V.byt i=V.byt j)=(i.toList == j.toList):=by
 rw[Bool.eq_iff_iff]
 cases i
 cases j
 simp
section
variable {X:Cx} {a b c:Expr} {ta tb tc:TE} {pos:Pos}
theorem zaP {pins:List (Addr×Obj)} {σ:St} {H:Hp} {s:Shared} {Q:VK} {k k':Bool} (I:Inv X pins σ H s) (q:Q (.bl k) H) (e:k=k'):EP X pins σ Q (.bool k') s:=by
 subst e
 exact⟨.bl k,H,I,rfl,q⟩
theorem op_eq:OpR X (compareOp .Eq) rEq:=by
 intro pins s σ H x y v u Q I rx ry h
 obtain⟨hs,q⟩:=h
 cases x with
 | non =>
  cases rx
  cases y with
  | non=>cases ry;exact PySem.EqNone.eq_none_none (zaP I q (by simp))
  | bl j=>cases ry;exact PySem.EqNone.eq_none_bool (zaP I q (by simp))
  | int j=>obtain⟨t',rfl⟩:=ry;exact PySem.EqNone.eq_none_int (zaP I q (by simp))
  | str j=>obtain⟨t',rfl⟩:=ry;exact PySem.EqNone.eq_none_str (zaP I q (by simp))
  | _=>exact absurd (show false=true from hs) Bool.false_ne_true
 | bl i =>
  cases rx
  cases y with
  | non=>cases ry;exact PySem.EqNone.eq_bool_none (zaP I q (by simp))
  | bl j=>cases ry;exact eq_bool (zaP I q zq2)
  | str j=>obtain⟨t',rfl⟩:=ry;exact PySem.EqMixed.eq_bool_str (zaP I q (by simp))
  | _=>exact absurd (show false=true from hs) Bool.false_ne_true
 | int i =>
  obtain⟨t,rfl⟩:=rx
  cases y with
  | non=>cases ry;exact PySem.EqNone.eq_int_none (zaP I q (by simp))
  | int j=>obtain⟨t',rfl⟩:=ry;exact eq_int (zaP I q zoB)
  | str j=>obtain⟨t',rfl⟩:=ry;exact PySem.EqMixed.eq_int_str (zaP I q (by simp))
  | _=>exact absurd (show false=true from hs) Bool.false_ne_true
 | str i =>
  obtain⟨t,rfl⟩:=rx
  cases y with
  | non=>cases ry;exact PySem.EqNone.eq_str_none (zaP I q (by simp))
  | bl j=>cases ry;exact PySem.EqMixed.eq_str_bool (zaP I q (by simp))
  | int j=>obtain⟨t',rfl⟩:=ry;exact PySem.EqMixed.eq_str_int (zaP I q (by simp))
  | str j=>obtain⟨t',rfl⟩:=ry;exact eq_str (zaP I q zoA)
  | _=>exact absurd (show false=true from hs) Bool.false_ne_true
 | byt i =>
  obtain⟨t,rfl⟩:=rx
  cases y with
  | byt j=>obtain⟨t',rfl⟩:=ry;exact PySem.W.eq_bytes (zaP I q zoC)
  | _=>exact absurd (show false=true from hs) Bool.false_ne_true
 | _=>cases y<;>exact absurd (show false=true from hs) Bool.false_ne_true
theorem op_ne:OpR X (compareOp .NotEq) rNe:=by
 intro pins s σ H x y v u Q I rx ry h
 obtain⟨hs,q⟩:=h
 cases x with
 | non =>
  cases rx
  cases y with
  | non=>cases ry;exact PySem.EqNone.ne_none_none (zaP I q (by simp))
  | bl j=>cases ry;exact PySem.EqNone.ne_none_bool (zaP I q (by simp))
  | int j=>obtain⟨t',rfl⟩:=ry;exact PySem.EqNone.ne_none_int (zaP I q (by simp))
  | str j=>obtain⟨t',rfl⟩:=ry;exact PySem.EqNone.ne_none_str (zaP I q (by simp))
  | _=>exact absurd (show false=true from hs) Bool.false_ne_true
 | bl i =>
  cases rx
  cases y with
  | non=>cases ry;exact PySem.EqNone.ne_bool_none (zaP I q (by simp))
  | bl j=>cases ry;exact ne_bool (zaP I q (congrArg not zq2))
  | str j=>obtain⟨t',rfl⟩:=ry;exact PySem.EqMixed.ne_bool_str (zaP I q (by simp))
  | _=>exact absurd (show false=true from hs) Bool.false_ne_true
 | int i =>
  obtain⟨t,rfl⟩:=rx
  cases y with
  | non=>cases ry;exact PySem.EqNone.ne_int_none (zaP I q (by simp))
  | int j=>obtain⟨t',rfl⟩:=ry;exact ne_int (zaP I q (congrArg not zoB))
  | str j=>obtain⟨t',rfl⟩:=ry;exact PySem.EqMixed.ne_int_str (zaP I q (by simp))
  | _=>exact absurd (show false=true from hs) Bool.false_ne_true
 | str i =>
  obtain⟨t,rfl⟩:=rx
  cases y with
  | non=>cases ry;exact PySem.EqNone.ne_str_none (zaP I q (by simp))
  | bl j=>cases ry;exact PySem.EqMixed.ne_str_bool (zaP I q (by simp))
  | int j=>obtain⟨t',rfl⟩:=ry;exact PySem.EqMixed.ne_str_int (zaP I q (by simp))
  | str j=>obtain⟨t',rfl⟩:=ry;exact ne_str (zaP I q (congrArg not zoA))
  | _=>exact absurd (show false=true from hs) Bool.false_ne_true
 | byt i =>
  obtain⟨t,rfl⟩:=rx
  cases y with
  | byt j=>obtain⟨t',rfl⟩:=ry;exact PySem.W.ne_bytes (zaP I q (congrArg not zoC))
  | _=>exact absurd (show false=true from hs) Bool.false_ne_true
 | _=>cases y<;>exact absurd (show false=true from hs) Bool.false_ne_true
theorem op_lt:OpR X (compareOp .Lt) (rI0 λi j=>.bl (decide (i < j))):=opB0 λ_ _ _ _ _ _ _ q=>lt_int q
theorem op_le:OpR X (compareOp .LtE) (rI0 λi j=>.bl (decide (i≤j))):=opB0 λ_ _ _ _ _ _ _ q=>le_int q
theorem op_gt:OpR X (compareOp .Gt) (rI0 λi j=>.bl (decide (j < i))):=opB0 λ_ _ _ _ _ _ _ q=>gt_int q
theorem nomark (b:Expr) {op:CmpOp} (h:op≠.In:=by decide) (h2:op≠.NotIn:=by decide):behindInMarks op b=false:=by
 have e1:(op == CmpOp.In)=false:=by cases op<;>first|rfl|exact absurd rfl h
 have e2:(op == CmpOp.NotIn)=false:=by cases op<;>first|rfl|exact absurd rfl h2
 cases b<;>simp[behindInMarks,e1,e2]
theorem zfW {op:CmpOp} {r:R2} (ho:OpR X (compareOp op) r) (ha:PE X a ta) (hb:PE X b tb) (hm:behindInMarks op b=false):PE X (.Compare a [op] [b] pos) (tOp r ta tb):=by
 intro pins s σ H Q I h
 exact wpAny_Compare1 (binT ha hb I h λv u s2 x y H2 I2 rx ry q=>ho pins s2 σ H2 x y v u Q I2 rx ry q) hm
def tTest (t:TE):TT:=λσ H Q=>t σ H λx H'=>∃k,x=.bl k∧Q k H'
theorem zaf {op:CmpOp} {r:R2} (ho:OpR X (compareOp op) r) (ha:PE X a ta) (hb:PE X b tb) (hm:behindInMarks op b=false):PT X (.Compare a [op] [b] pos) (tTest (tOp r ta tb)):=by
 intro pins s σ H Q I h
 refine wpAny_isTrue_Compare1 (thn (ha pins s σ H _ I h) λv s1 ⟨x,H1,I1,r1,q1⟩=>thn (hb pins s1 σ H1 _ I1 q1) λu s2 ⟨y,H2,I2,r2,q2⟩ =>
  thn (ho pins s2 σ H2 x y v u _ I2 r1 r2 q2) λc s3 ⟨z,H3,I3,r3,k,e,q3⟩=>?_) hm
 subst e
 cases r3
 exact wpAny_truthy_bool ⟨H3,I3,q3⟩
def tChain (r r':R2) (ta tb tc:TE):TE:=λσ H Q=>ta σ H λx H1=>tb σ H1 λy H2=>r x y H2 λz H3=>∃k,z=.bl k∧
 (if k=true then tc σ H3 λw' H4=>r' y w' H4 Q else Q (.bl false) H3)
theorem zpr {op op':CmpOp} {r r':R2} (ho:OpR X (compareOp op) r) (ho':OpR X (compareOp op') r') (ha:PE X a ta) (hb:PE X b tb) (hc:PE X c tc)
  (hm:lastMarks [op,op'] [b,c]=false:=by with_unfolding_all rfl):PE X (.Compare a [op,op'] [b,c] pos) (tChain r r' ta tb tc):=by
 intro pins s σ H Q I h
 refine Compare_chain (thn (ha pins s σ H _ I h) λv s1 ⟨x,H1,I1,r1,q1⟩=>chain_link (thn (hb pins s1 σ H1 _ I1 q1) λu s2 ⟨y,H2,I2,r2,q2⟩ =>
  thn (ho pins s2 σ H2 x y v u _ I2 r1 r2 q2) λd s3 ⟨z,H3,I3,r3,k,e,q3⟩=>?_)) hm
 subst e
 cases r3
 refine wpAny_truthy_bool ?_
 cases k with
 | false=>exact ite_ff ⟨.bl false,H3,I3,rfl,q3⟩
 | true=>exact ite_tt (chain_last (thn (hc pins s3 σ H3 _ I3 q3) λw' s4 ⟨z',H4,I4,r4,q4⟩=>ho' pins s4 σ H4 y z' u w' Q I4 r2 r4 q4))
def TruV (K:PySem.W.Frag) (x:V) (H:Hp) (k:Bool):Prop :=
 match x with
 | .non=>k=false
 | .bl b=>k=b
 | .int i=>k=(i != 0)
 | .str y=>y.length≤sizeLine∧k=((y.length:Int) != 0)
 | .byt y=>y.size≤sizeLine∧k=((y.size:Int) != 0)
 | .ref p=>(∃xs,SqL K H p xs∧k = !xs.isEmpty)∨(∃xs,SqT K H p xs∧k = !xs.isEmpty)∨∃kvs,H p=some (.dK kvs)∧k = !kvs.isEmpty
 | _=>False
theorem zn4 {κ:Type} {kvs:List (κ×V)} {vs:List (κ×Value)} (r:KV kvs vs):(!vs.isEmpty) = !kvs.isEmpty:=by
 cases r<;>rfl
theorem zj6 {xs:List V} {its:List Value} (r:Vals xs its):(!its.toArray.isEmpty) = !xs.isEmpty:=by
 cases r<;>simp
theorem line63:(sizeLine:Nat) < 2 ^ 63:=by rw[sizeLine_eq];decide
theorem zqQ:TruR X (λx H Q=>∃k,TruV X.K x H k∧Q k H):=by
 intro pins s σ H x v Q I rx h
 obtain⟨k,e,q⟩:=h
 have hl:=line63
 have hs:sizeLine=16777216:=sizeLine_eq
 cases x with
 | non =>
  cases rx
  have e':k=false:=e
  subst e'
  exact truthy_none ⟨H,I,q⟩
 | bl b =>
  cases rx
  have e':k=b:=e
  subst e'
  exact wpAny_truthy_bool ⟨H,I,q⟩
 | int i =>
  obtain⟨t,rfl⟩:=rx
  have e':k=(i != 0):=e
  subst e'
  exact PySem.P.truthy_int ⟨H,I,q⟩
 | str y =>
  obtain⟨t,rfl⟩:=rx
  obtain⟨hy,e'⟩:y.length≤sizeLine∧k=((y.length:Int) != 0):=e
  subst e'
  exact PySem.P.truthy_str (by omega) ⟨H,I.tok _,q⟩
 | byt y =>
  obtain⟨t,rfl⟩:=rx
  obtain⟨hy,e'⟩:y.size≤sizeLine∧k=((y.size:Int) != 0):=e
  subst e'
  exact PySem.W.truthy_bytes (by omega) ⟨H,I.tok _,q⟩
 | ref p =>
  cases rx
  have e':(∃xs,SqL X.K H p xs∧k = !xs.isEmpty)∨(∃xs,SqT X.K H p xs∧k = !xs.isEmpty)∨∃kvs,H p=some (.dK kvs)∧k = !kvs.isEmpty:=e
  rcases e' with ⟨xs,hx,e'⟩|⟨xs,hx,e'⟩|⟨kvs,hx,e'⟩
  ·subst e'
   obtain⟨its,r,pl,hz⟩:=I.list hx
   have hlen:=r.length
   exact wpAny_truthy_list pl.isList (by simp only[List.size_toArray];omega) ⟨H,I.tok _,by rw[zj6 r];exact q⟩
  ·subst e'
   obtain⟨its,r,pl,hz⟩:=I.tuple hx
   have hlen:=r.length
   exact truthy_tuple pl (by simp only[List.size_toArray];omega) ⟨H,I.tok _,by rw[zj6 r];exact q⟩
  ·subst e'
   obtain⟨hz,hS,vs,r,m⟩:kvs.length≤sizeLine∧(p == sysModules)=false∧∃vs,KV kvs vs∧s.heap.DictOf (mixKind X.prog X.w) p vs:=I.hok p _ hx
   have hlen:kvs.length=vs.length:=Paired.length r
   exact wpAny_truthy_dict hS m (by omega) ⟨H,I.tok _,by rw[zn4 r];exact q⟩
 | _=>exact(show False from e).elim
theorem zpi (ha:PE X a ta) (he:∀whole,isTrue a X.env whole=(do let v ←whole;standAt a.pos;holding [v] (truthy v))) :
  PT X a (λσ H Q=>ta σ H λx H'=>∃k,TruV X.K x H' k∧Q k H'):=by
 intro pins s σ H Q I h
 exact isTrue_plain (thn (ha pins s σ H _ I h) λv s1 ⟨x,H1,I1,r1,q1⟩=>zqQ pins s1 σ H1 x v Q I1 r1 q1) (he _)
theorem vals1 {x:V} {us:List Value} (r:Vals [x] us):∃u,us=[u]∧RelV x u:=by
 cases r with
 | cons r1 r2=>cases r2;exact⟨_,rfl,r1⟩
theorem vals2 {x y:V} {us:List Value} (r:Vals [x,y] us):∃u w',us=[u,w']∧RelV x u∧RelV y w':=by
 cases r with
 | cons r1 r2 =>
  cases r2 with
  | cons r3 r4=>cases r4;exact⟨_,_,rfl,r1,r3⟩
end
end L2
namespace L2
open PySem PySem.Spec PyProof.Rows
structure ObjM (h:Heap) (x dx C:Addr) (mA:Str→Option Value):Prop where
 obj:h.get? x=some (PySem.W.instObj C dx)
 ns:h.Ns1 dx mA
 ne:dx≠x
theorem zo5 {h:Heap} {dx:Addr} {mA:Str→Option Value} (n:h.Ns1 dx mA):∃od,h.get? dx=some od∧∀name,PySem.W.lookIn name od=some (mA name):=by
 obtain⟨o,es,ep,ho,hd,hk,_,hm⟩:=n
 refine⟨o,ho,λname=>?_⟩
 have e:=hm name
 unfold nsFind findBy at e
 rw[←Array.find?_toList] at e
 unfold PySem.W.lookIn
 rw[hd]
 dsimp only
 split
 ·rename_i y q
  rw[q] at e
  exact congrArg some e
 ·rename_i q
  rw[q] at e
  have a:es.toList.any (·.refKey)=false:=by
   rw[List.any_eq_false]
   intro y hy
   obtain⟨z,t,hkey⟩:=hk y (Array.mem_toList_iff.mp hy)
   simp[DictEntry.refKey,hkey]
  have a':¬ es.toList.any (·.refKey)=true:=by rw[a];exact Bool.false_ne_true
  rw[if_neg a']
  exact congrArg some e
theorem ObjM.look {h:Heap} {x dx C:Addr} {mA:Str→Option Value} (I:ObjM h x dx C mA):∃od,PySem.W.InstAt h x (PySem.W.instObj C dx) C (some od)∧∀name,PySem.W.lookIn name od=some (mA name) :=
 let ⟨od,ho,hl⟩:=zo5 I.ns
 ⟨od,⟨I.obj,rfl,rfl,ho⟩,hl⟩
section
variable {prog:Program} {w:World} {A:Around} {E:Value→Shared→Prop} {s:Shared} {K:PySem.W.Frag} {x dx C f:Addr} {mA:Str→Option Value} {name:Str} {v:Value}
theorem zqA {expr:Bool} {Q:Value→Shared→Prop} (X:K.In s.heap) (I:ObjM s.heap x dx C mA) (hg:PySem.W.plainGet K C name=true) (hh:PySem.W.hasDictIn K C=true)
  (ha:PySem.W.findIn K (.ref C) name=some none) (hv:mA name=some v) (hv':PySem.W.handedIn v=true) (h:Q v { s with toks:=s.toks+1 }) :
  wpAny (model prog w) A (getAttr (.ref x) name expr) Q E s:=by
 obtain⟨od,J,hl⟩:=I.look
 exact PySem.W.get_value X J (PySem.W.plainGet_of hg).1 (PySem.W.findObj_own hh ha rfl (by rw[hl,hv])) hv' h
theorem zpI {pl:Sem Bool} {Q:Value×List Value→Shared→Prop} (X:K.In s.heap) (I:ObjM s.heap x dx C mA) (hg:PySem.W.plainGet K C name=true)
  (hf:PySem.W.findIn K (.ref C) name=some (some (.ref f))) (ht:PySem.W.isFn K (.ref f)=true) (hv:mA name=none) (h:Q (.ref f,[.ref x]) s) :
  wpAny (model prog w) A (getMethod (.ref x) name pl) Q E s:=by
 obtain⟨od,J,hl⟩:=I.look
 exact PySem.W.method_fn X J (PySem.W.plainGet_of hg).1 (PySem.W.plainGet_of hg).2 hf (beq_iff_eq.mp ht) (by show (PySem.W.lookIn name od).map (·.isSome)=some false;rw[hl,hv];rfl) h
theorem zqc {ns:List Str} {Q:Unit→Shared→Prop} (X:K.In s.heap) (I:ObjM s.heap x dx C mA)
  (hs:PySem.W.findIn K (.ref C) "__setattr__"=some (some (.builtin "object.__setattr__"))) (hp:PySem.W.plainOver K C=true) (ht:PySem.W.takerIn K C name=some none) (hh:PySem.W.hasDictIn K C=true)
  (hw:PySem.Within mA ns) (hsz:ns.length≤sizeLine)
  (h:∀h',ObjM h' x dx C (λy=>if y=name then some v else mA y)→Heap.SameBut dx s.heap h'→Q () { s with heap:=h',toks:=s.toks+2 }) :
  wpAny (model prog w) A (setAttr (.ref x) name v) Q E s:=by
 obtain⟨od,J,hl⟩:=I.look
 refine PySem.W.set_plain X J hs (PySem.W.osa_open (s:={ s with toks:=s.toks+1 }) (r:=none) X J hp ht λb=>?_)
 obtain⟨cd,hc,hd'⟩:=PySem.W.any_some hh
 have hx:s.heap.get? x=some ⟨.ref C,some dx,.plain,#[]⟩:=I.obj
 refine wpAny_bind (wpAny_pure (wpAny_bind (wpAny_bind (wpAny_loadPart hx (wpAny_bind (PySem.W.Looks.here (s:={ s with toks:=s.toks+1 }) (PySem.W.looks_clsIn X hc) ?_))))))
 rw[hd']
 refine wpAny_pure (a:=some dx) (wpAny_bind (wpAny_pure (wpAny_bind ?_)))
 refine wpAny_nsSet1 (s:={ s with toks:=s.toks+1 }) I.ns λh' hn2 hs2=>?_
 obtain⟨oD,esD,epD,hoD,hdD,hcD⟩:=hn2.count (PySem.Within.cons name v hw)
 refine wpAny_bind (wpAny_lookBehind hoD (by rw[hdD];exact pastItsLine_dict (Nat.le_trans hcD (by rw[List.length_cons];omega))) ?_)
 exact wpAny_pure (h _ ⟨(hs2.2 _ (Ne.symm I.ne)).trans I.obj,hn2,I.ne⟩ hs2)
theorem zpy {R:Result→Shared→Prop} {vs:List Value} {kw:List (Str×Value)} (X:K.In s.heap) (hm:PySem.W.makesIn K C=true)
  (hi:PySem.W.findIn K (.ref C) "__init__"=some (some (.ref f))) (hf:PySem.W.typeIn K (.ref f)=some (.type "function"))
  (h:codeAny (model prog w) (A.under (.builtin "type.__call__" ⟨.ref C::vs,kw⟩)) (.call (.ref f) ⟨.ref (s.heap.objs.size+1)::vs,kw⟩) (PySem.W.InitBack (s.heap.objs.size+1) R)
   { s with heap:=(s.heap.push PySem.W.emptyDict).push (PySem.W.instObj C s.heap.objs.size) }) :
  codeAny (model prog w) A (.call (.ref C) ⟨vs,kw⟩) R s:=by
 obtain⟨hh,g,d,t,os⟩:=s
 exact PySem.W.make_core (PySem.W.makes_of X hm) (PySem.W.looks_findIn X hi) (λself=>PySem.W.bind_fn X self hf) (.inl rfl) h
end
def putF (f:Str) (v:V):List (Str×V)→List (Str×V)
 | []=>[(f,v)]
 | (g,x)::r=>if g=f then (g,v)::r else (g,x)::putF f v r
theorem zcR (f g:Str) (v:V):∀fs:List (Str×V),(putF f v fs).lookup g=if g=f then some v else fs.lookup g
 | []=>by
  show List.lookup g [(f,v)]=_
  by_cases h:g=f
  ·have hb:(g == f)=true:=beq_iff_eq.mpr h
   simp only[List.lookup,hb,if_pos h]
  ·have hb:(g == f)=false:=beq_eq_false_iff_ne.mpr h
   simp only[List.lookup,hb,if_neg h]
 | (k,x)::r=>by
  have ih:=zcR f g v r
  rw[show putF f v ((k,x)::r)=(if k=f then (k,v)::r else (k,x)::putF f v r) from rfl]
  by_cases hk:k=f
  ·rw[if_pos hk]
   by_cases h:g=k
   ·have hb:(g == k)=true:=beq_iff_eq.mpr h
    simp only[List.lookup,hb,if_pos (h.trans hk)]
   ·have hb:(g == k)=false:=beq_eq_false_iff_ne.mpr h
    simp only[List.lookup,hb,if_neg (λe:g=f=>h (e.trans hk.symm))]
  ·rw[if_neg hk]
   by_cases h:g=k
   ·have hb:(g == k)=true:=beq_iff_eq.mpr h
    simp only[List.lookup,hb,if_neg (λe:g=f=>hk (h.symm.trans e))]
   ·have hb:(g == k)=false:=beq_eq_false_iff_ne.mpr h
    simp only[List.lookup,hb]
    exact ih
theorem zhW (f:Str) (v:V):∀fs:List (Str×V),f∈(putF f v fs).map (·.1)∧∀g,g∈fs.map (·.1)→g∈(putF f v fs).map (·.1)
 | []=>⟨by simp[putF],λg h=>by simp at h⟩
 | (k,x)::r=>by
  obtain⟨i1,i2⟩:=zhW f v r
  rw[show putF f v ((k,x)::r)=(if k=f then (k,v)::r else (k,x)::putF f v r) from rfl]
  by_cases hk:k=f
  ·rw[if_pos hk]
   subst hk
   exact⟨by simp,λg h=>by simpa using h⟩
  ·rw[if_neg hk]
   refine⟨?_,λg h=>?_⟩
   ·rw[List.map_cons]
    exact List.mem_cons_of_mem _ i1
   ·rw[List.map_cons] at h ⊢
    rcases List.mem_cons.mp h with e|e
    ·exact List.mem_cons.mpr (.inl e)
    ·exact List.mem_cons_of_mem _ (i2 g e)
theorem zeX (f:Str) (v:V):∀fs:List (Str×V),(putF f v fs).length≤fs.length+1
 | []=>by simp[putF]
 | (k,x)::r=>by
  have ih:=zeX f v r
  rw[show putF f v ((k,x)::r)=(if k=f then (k,v)::r else (k,x)::putF f v r) from rfl]
  by_cases hk:k=f
  ·rw[if_pos hk,List.length_cons,List.length_cons];omega
  ·rw[if_neg hk,List.length_cons,List.length_cons];omega
theorem RelO.some_of {v:V} {o:Option Value} (r:RelO (some v) o):∃u,o=some u∧RelV v u:=by
 cases o with
 | none=>exact(show False from r).elim
 | some u=>exact⟨u,rfl,r⟩
theorem RelO.none_of {o:Option Value} (r:RelO none o):o=none:=by
 cases o with
 | none=>rfl
 | some u=>exact(show False from r).elim
theorem zol {v:V} {u:Value} (r:RelV v u):PySem.W.handedIn u=true:=by
 cases v with
 | non=>cases (show u=Value.none from r);rfl
 | bl b=>cases (show u=Value.bool b from r);rfl
 | int i=>obtain⟨t,e⟩:=(show ∃t,u=Value.int i t from r);cases e;rfl
 | str x=>obtain⟨t,e⟩:=(show ∃t,u=Value.str x t from r);cases e;rfl
 | byt b=>obtain⟨t,e⟩:=(show ∃t,u=Value.bytes b t from r);cases e;rfl
 | flt b=>obtain⟨t,e⟩:=(show ∃t,u=Value.float b t from r);cases e;rfl
 | ref a=>cases (show u=Value.ref a from r);rfl
 | ty n=>cases (show u=Value.type n from r);rfl
section
variable {P:Program} {w:World} {H H':Hp} {h h':Heap} {a C dx:Addr} {fs fs':List (Str×V)}
theorem zlI (hok:HOk P w H h) (e:H a=some (.ins C dx fs)):∃mA,ObjM h a dx C mA∧(∀f,RelO (fs.lookup f) (mA f))∧PySem.Within mA (fs.map (·.1))∧fs.length≤1000∧H dx=some (.own a):=by
 obtain⟨d,z,ne,ob,mA,n,r,q⟩:=(show ObjOk P w H h a (.ins C dx fs) from hok a _ e)
 exact⟨mA,⟨ob,n,ne⟩,r,q,z,d⟩
end
structure Cls (K:PySem.W.Frag) (C:Addr):Prop where
 pg:PySem.W.plainGet K C Str.empty=true
 hd:PySem.W.hasDictIn K C=true
 po:PySem.W.plainOver K C=true
 sa:PySem.W.findIn K (.ref C) "__setattr__"=some (some (.builtin "object.__setattr__"))
theorem Cls.get {K:PySem.W.Frag} {C:Addr} (c:Cls K C) (f:Str):PySem.W.plainGet K C f=true:=c.pg
def NoAttr (K:PySem.W.Frag) (C:Addr) (f:Str):Prop:=PySem.W.findIn K (.ref C) f=some none
theorem NoAttr.taker {K:PySem.W.Frag} {C:Addr} {f:Str} (n:NoAttr K C f):PySem.W.takerIn K C f=some none:=by
 unfold PySem.W.takerIn
 rw[show PySem.W.findIn K (.ref C) f=some none from n]
 rfl
structure Meth (K:PySem.W.Frag) (C:Addr) (m:Str) (f:Addr):Prop where
 at_:PySem.W.findIn K (.ref C) m=some (some (.ref f))
 fn:PySem.W.isFn K (.ref f)=true
 kp:PySem.W.keepIn K (.ref f)=true
section
variable {X:Cx} {pins:List (Addr×Obj)} {σ:St} {H:Hp} {s:Shared} {a C dx:Addr} {fs:List (Str×V)} {f:Str} {v:V} {A:Around} {E:Value→Shared→Prop}
theorem zj9 {b:Bool} {Q:Value→Shared→Prop} (I:Inv X pins σ H s) (e:H a=some (.ins C dx fs)) (c:Cls X.K C) (n:NoAttr X.K C f) (l:fs.lookup f=some v)
  (h:∀u s',Inv X pins σ H s'→RelV v u→Q u s'):wpAny (model X.prog X.w) A (getAttr (.ref a) f b) Q E s:=by
 obtain⟨mA,O,r,_,_,_⟩:=zlI I.hok e
 obtain⟨u,hu,ru⟩:=RelO.some_of (v:=v) (o:=mA f) (by rw[←l];exact r f)
 exact zqA I.kIn O (c.get f) c.hd n hu (zol ru) (h u _ (I.tok _) ru)
theorem zgc {m:Str} {g:Addr} {pl:Sem Bool} {Q:Value×List Value→Shared→Prop} (I:Inv X pins σ H s) (e:H a=some (.ins C dx fs)) (c:Cls X.K C) (k:Meth X.K C m g) (l:fs.lookup m=none)
  (h:Q (.ref g,[.ref a]) s):wpAny (model X.prog X.w) A (getMethod (.ref a) m pl) Q E s:=by
 obtain⟨mA,O,r,_,_,_⟩:=zlI I.hok e
 have hn:mA m=none:=RelO.none_of (by rw[←l];exact r m)
 exact zpI I.kIn O (c.get m) k.at_ k.fn hn h
theorem zj1 {y:V} {u:Value} {Q:Unit→Shared→Prop} (I:Inv X pins σ H s) (e:H a=some (.ins C dx fs)) (c:Cls X.K C) (n:NoAttr X.K C f) (hl:fs.length < 1000) (ry:RelV y u)
  (h:∀s',Inv X pins σ (upd H a (.ins C dx (putF f y fs))) s'→Q () s'):wpAny (model X.prog X.w) A (setAttr (.ref a) f u) Q E s:=by
 obtain⟨mA,O,r,wi,_,ho⟩:=zlI I.hok e
 have hz:(fs.map (·.1)).length≤sizeLine:=by rw[List.length_map,sizeLine_eq];omega
 refine zqc I.kIn O c.sa c.po n.taker c.hd wi hz λh' O' sb=>h _ ?_
 have hd:∃o,h'.get? dx=some o:=let ⟨o,_,_,e',_⟩:=O'.ns;⟨o,e'⟩
 refine I.write (x:=a) (e:=dx) (by rw[e];exact True.intro) (.inr ho) (λb q hb z=>(sb.2 b hb).trans z) hd ?_
 refine⟨by rw[za6 O.ne];exact ho,?_,O.ne,O'.obj,_,O'.ns,λg=>?_,λg hg=>?_⟩
 ·have:=zeX f y fs;omega
 ·show RelO ((putF f y fs).lookup g) (if g=f then some u else mA g)
  rw[zcR]
  by_cases q:g=f
  ·rw[if_pos q,if_pos q];exact ry
  ·rw[if_neg q,if_neg q];exact r g
 ·by_cases q:g=f
  ·rw[q];exact(zhW f y fs).1
  ·refine(zhW f y fs).2 g (wi g λz=>hg ?_)
   show (if g=f then some u else mA g)=none
   rw[if_neg q];exact z
theorem Inv.made (I:Inv X pins σ H s):Inv X pins σ (upd (upd H s.heap.objs.size (.own (s.heap.objs.size+1))) (s.heap.objs.size+1) (.ins C s.heap.objs.size []))
  { s with heap:=(s.heap.push PySem.W.emptyDict).push (PySem.W.instObj C s.heap.objs.size) }:=by
 have e1:(s.heap.push PySem.W.emptyDict).get? s.heap.objs.size=some PySem.W.emptyDict:=Heap.get?_push_size s.heap rfl
 have e2:((s.heap.push PySem.W.emptyDict).push (PySem.W.instObj C s.heap.objs.size)).get? (s.heap.objs.size+1)=some (PySem.W.instObj C s.heap.objs.size):=by
  have:=Heap.get?_push_size (s.heap.push PySem.W.emptyDict) (o:=PySem.W.instObj C s.heap.objs.size) rfl
  rwa[Heap.size_push] at this
 have e3:(s.heap.push PySem.W.emptyDict).Ns s.heap.objs.size (λ_=>none):=⟨PySem.W.emptyDict,#[],_,e1,rfl,(λe he=>absurd he (by simp)),λ_=>rfl⟩
 have I1:=I.laid (a:=s.heap.objs.size) (o:=.own (s.heap.objs.size+1)) (h':=s.heap.push PySem.W.emptyDict) (t':=s.toks) (λb u q=>Heap.get?_push_of_some _ q) (Nat.le_refl _) ⟨_,e1⟩
 refine I1.laid (a:=s.heap.objs.size+1) (o:=.ins C s.heap.objs.size []) (t':=s.toks) (λb u q=>Heap.get?_push_of_some _ q) (Nat.le_of_eq (Heap.size_push _ _)) ?_
 have ne:s.heap.objs.size≠s.heap.objs.size+1:=Nat.ne_of_lt (Nat.lt_succ_self _)
 refine⟨by rw[za6 ne,za1],Nat.zero_le _,ne,e2,λ_=>none,(Heap.Ns1.of_empty e3).at λo q=>Heap.get?_push_of_some _ q,λ_=>True.intro,λy hy=>absurd rfl hy⟩
theorem zqL {prog:Program} {w:World} {env:Env} {e:Expr} {f:Str} {pos:Pos} {s:Shared} {Q:Value→Shared→Prop} (hb:attributeBase e f env (eval e env)=eval e env)
  (h:wpAny (model prog w) A (eval e env) (λo s₁=>wpAny (model prog w) A (getAttr o f true) Q E s₁) E s):wpAny (model prog w) A (eval (.Attribute e f pos) env) Q E s :=
 Attribute_any_ h (by rw[arm_eval_Attribute,hb])
end
def tFld (K:PySem.W.Frag) (ta:TE) (f:Str):TE:=λσ H Q=>ta σ H λx H1=>∃a C dx fs v,x=.ref a∧H1 a=some (.ins C dx fs)∧Cls K C∧NoAttr K C f∧fs.lookup f=some v∧Q v H1
def sFld (K:PySem.W.Frag) (ta tv:TE) (f:Str):TS:=λD σ H=>tv σ H λy H1=>ta σ H1 λx H2=>∃a C dx fs,x=.ref a∧H2 a=some (.ins C dx fs)∧Cls K C∧NoAttr K C f∧fs.length < 1000∧
 D.nx σ (upd H2 a (.ins C dx (putF f y fs)))
def InOp (X:Cx) (op:Operator) (rd:V→V→Hp→VK→Prop):Prop :=
 ∀(pins:List (Addr×Obj)) (s:Shared) (σ:St) (H:Hp) (x y:V) (u v:Value) (Q:VK),Inv X pins σ H s→RelV x u→RelV y v→rd x y H Q→wpAny (model X.prog X.w) X.A (inplaceOp op u v) (EP X pins σ Q) X.xe s
def sFldAug (K:PySem.W.Frag) (ta tv:TE) (rd:V→V→Hp→VK→Prop) (f:Str):TS:=λD σ H=>ta σ H λx H1=>∃a C dx fs v,x=.ref a∧H1 a=some (.ins C dx fs)∧Cls K C∧NoAttr K C f∧fs.lookup f=some v∧
 tv σ H1 λy H2=>rd v y H2 λz H3=>∃dx' fs',H3 a=some (.ins C dx' fs')∧fs'.length < 1000∧D.nx σ (upd H3 a (.ins C dx' (putF f z fs')))
section
variable {X:Cx} {o e value:Expr} {f:Str} {pos pos' tpos:Pos} {ta tv:TE}
theorem zab (he:PE X e ta) (hb:attributeBase e f X.env (eval e X.env)=eval e X.env):PE X (.Attribute e f pos) (tFld X.K ta f):=by
 intro pins s σ H Q I h
 refine zqL hb (thn (he pins s σ H _ I h) λu s1 ⟨x,H1,I1,rx,a,C,dx,fs,v,ex,ea,c,n,l,q⟩=>?_)
 subst ex
 obtain rfl:u=Value.ref a:=rx
 exact zj9 I1 ea c n l λu' s2 I2 ru=>⟨v,H1,I2,ru,q⟩
theorem zc4 (ha:PE X o ta) (hv:PE X value tv) (hs:swapsWith value (some (.Attribute o f pos')) pos.line X.env=pure false):PS X (.Assign [.Attribute o f pos'] value pos) (sFld X.K ta tv f):=by
 intro pins s σ H D I h
 refine plainObj_wpAny_Assign_Attribute (thn (hv pins s σ H _ I h) λu s1 ⟨y,H1,I1,ry,q⟩=>thn (ha pins s1 σ H1 _ I1 q) λov s2 ⟨x,H2,I2,rx,a,C,dx,fs,ex,ea,c,n,l,q2⟩=>?_) hs
 subst ex
 obtain rfl:ov=Value.ref a:=rx
 exact zj1 I2 ea c n l ry λs3 I3=>⟨σ,_,I3,q2⟩
theorem zfu {op:Operator} {rd:V→V→Hp→VK→Prop} (ha:PE X o ta) (hv:PE X value tv) (hop:InOp X op rd):PS X (.AugAssign (.Attribute o f tpos) op value pos) (sFldAug X.K ta tv rd f):=by
 intro pins s σ H D I h
 refine wpAny_AugAssign_AttributeAny (thn (ha pins s σ H _ I h) λov s1 ⟨x,H1,I1,rx,a,C,dx,fs,v,ex,ea,c,n,l,q⟩=>?_)
 subst ex
 obtain rfl:ov=Value.ref a:=rx
 refine zj9 I1 ea c n l λu s2 I2 ru=>thn (hv pins s2 σ H1 _ I2 q) λw3 s3 ⟨y,H2,I3,ry,q3⟩=>thn (hop pins s3 σ H2 v y u w3 _ I3 ru ry q3) λw4 s4 ⟨z,H3,I4,rz,dx',fs',ea',l',q4⟩=>?_
 exact zj1 I4 ea' c n l' rz λs5 I5=>⟨σ,_,I5,q4⟩
def rAdd:V→V→Hp→VK→Prop:=λx y H Q=>∃i j,x=.int i∧y=.int j∧Q (.int (i+j)) H
theorem zmt:InOp X .Add rAdd:=by
 rintro pins s σ H x y u v Q I rx ry ⟨i,j,rfl,rfl,q⟩
 obtain⟨t,rfl⟩:=(show ∃t,u=Value.int i t from rx)
 obtain⟨t',rfl⟩:=(show ∃t',v=Value.int j t' from ry)
 exact PyProof.Rows.iadd_int ⟨.int (i+j),H,I.tok _,⟨_,rfl⟩,q⟩
theorem zqs {pl:Sem Bool} {m:Str} {apos:Pos} {args:List Expr} {pins:List (Addr×Obj)} {s:Shared} {σ:St} {H:Hp} {Q:Value→Shared→Prop} {te:TE} (he:PE X e te) (I:Inv X pins σ H s)
  (h:te σ H λx H1=>∃a C dx fs g,x=.ref a∧H1 a=some (.ins C dx fs)∧Cls X.K C∧Meth X.K C m g∧fs.lookup m=none∧
   ∀s1,Inv X pins σ H1 s1→wpAny (model X.prog X.w) X.A (callWith pos (.ref g) [.ref a] (backTo pos (starEach args X.env)) (backToKw pos (keywordEach [] X.env))) Q X.xe s1)
  (ht:eval (.Call (.Attribute e m apos) args [] pos) X.env=(do
   let ov ←eval e X.env
   standAt apos.atName
   let (f,first) ←holding [ov] (getMethod ov m pl)
   callWith pos f first (backTo pos (starEach args X.env)) (backToKw pos (keywordEach [] X.env)))) :
  wpAny (model X.prog X.w) X.A (eval (.Call (.Attribute e m apos) args [] pos) X.env) Q X.xe s:=by
 refine PySem.W.methodCall_KW (pl:=pl) (thn (he pins s σ H _ I h) λu s1 ⟨x,H1,I1,rx,a,C,dx,fs,g,ex,ea,c,k,l,q⟩=>?_) ht
 subst ex
 obtain rfl:u=Value.ref a:=rx
 exact zgc I1 ea c k l (q s1 I1)
end
section
variable {X:Cx} {pins:List (Addr×Obj)} {σ:St} {H:Hp} {s:Shared} {A:Around} {E:Value→Shared→Prop} {Q:Value→Shared→Prop} {c:Value} {b:Bool}
end
end L2
namespace L2
open PySem PySem.Spec PyProof.Rows
structure Room (k:Nat) (A:Around):Prop where
 hd:A.handled=none
 dp:A.depth+3 * k+5 < recursionLimit
 un:A.units+16 * k+200 < cLine
theorem Room.mono {j k:Nat} {A:Around} (r:Room k A) (h:j≤k):Room j A:=⟨r.hd,by have:=r.dp;omega,by have:=r.un;omega⟩
theorem Room.deeper {k:Nat} {A:Around} (r:Room (k+1) A) (env:Env):Room k (A.deeper env) :=
 ⟨r.hd,by have:=r.dp;show A.depth+1+3 * k+5 < _;omega,by have:=r.un;show A.units+3+16 * k+200 < _;omega⟩
theorem zmZ {A:Around} {C:Addr} {us:List Value} {kw:List (Str×Value)}:(A.under (.builtin "type.__call__" ⟨.ref C::us,kw⟩)).depth=A.depth+1:=by
 first|rfl|simp[Around.under,Code.weight,Code.isCreation,Code.isGuard,Code.isCaller,Code.frames,Code.isFrame,guardIds]
theorem zmY {A:Around} {C:Addr} {us:List Value} {kw:List (Str×Value)}:(A.under (.builtin "type.__call__" ⟨.ref C::us,kw⟩)).units=A.units+1:=by
 first|rfl|simp[Around.under,Code.cUnits,Code.frames,Code.isFrame]
theorem Room.make {k:Nat} {A:Around} (r:Room (k+1) A) (C:Addr) (us:List Value) (kw:List (Str×Value)):Room k (A.under (.builtin "type.__call__" ⟨.ref C::us,kw⟩)) :=
 ⟨r.hd,by have:=r.dp;rw[zmZ];omega,by have:=r.un;rw[zmY];omega⟩
theorem Room.depth {k:Nat} {A:Around} (r:Room k A):A.depth < recursionLimit:=by have:=r.dp;omega
theorem Room.units {k:Nat} {A:Around} (r:Room k A):A.units+64 < cLine:=by have:=r.un;omega
theorem Room.units0 {k:Nat} {A:Around} (r:Room k A):A.units < cLine:=by have:=r.un;omega
def tNil:TA:=λ_ H Q=>Q [] H
def tCons (ta:TE) (tr:TA):TA:=λσ H Q=>ta σ H λx H1=>tr σ H1 λxs H2=>Q (x::xs) H2
section
variable {X:Cx} {e:Expr} {es:List Expr} {te:TE} {t:TA} {pos:Pos}
theorem za4:PA X [] tNil:=λ_ _ _ _ H Q I h=>Calls.spliced_nil ⟨[],H,I,.nil,h⟩
theorem za0 (ha:PE X e te) (hr:PA X es t) (hs:starEach (e::es) X.env=(false,eval e X.env)::starEach es X.env:=by rfl):PA X (e::es) (tCons te t):=by
 intro pos pins s σ H Q I h
 rw[hs]
 show wpAny _ _ (spliced ((false,eval e X.env)::backTo pos (starEach es X.env))) _ _ s
 refine Calls.spliced_cons (thn (ha pins s σ H _ I h) λu s1 ⟨x,H1,I1,r1,q1⟩=>?_)
 exact thn (hr pos pins s1 σ H1 _ I1 q1) λus s2 ⟨xs,H2,I2,r2,q2⟩=>⟨x::xs,H2,I2,.cons r1 r2,q2⟩
def tTup (t:TA):TE:=λσ H Q=>t σ H λxs H1=>xs.length≤sizeLine∧∀p,H1 p=none→Q (.ref p) (upd H1 p (.tup xs))
def tLst (t:TA):TE:=λσ H Q=>t σ H λxs H1=>xs.length≤sizeLine∧∀p,H1 p=none→Q (.ref p) (upd H1 p (.lst xs))
theorem zd9 {x1} (h:PA X es t):PE X (.Tuple es x1 pos) (tTup t):=by
 intro pins s σ H Q I hq
 refine wpAny_Tuple_spliced (thn (h pos pins s σ H _ I hq) λus s1 ⟨xs,H1,I1,r,z,q⟩=>⟨by rw[←r.length];exact z,?_⟩)
 have hf:H1 s1.heap.objs.size=none:=I1.hok.fresh (Nat.le_refl _)
 refine⟨.ref s1.heap.objs.size,upd H1 s1.heap.objs.size (.tup xs),I1.laid (t':=s1.toks) (λb u e=>Heap.get?_push_of_some _ e) (Nat.le_refl _) ?_,rfl,q _ hf⟩
 exact⟨z,us,r,⟨_,Heap.get?_push_size _ rfl,rfl,_,rfl⟩⟩
theorem zas (h:PA X es t):PE X (.List es pos) (tLst t):=by
 intro pins s σ H Q I hq
 refine wpAny_List_spliced (thn (h pos pins s σ H _ I hq) λus s1 ⟨xs,H1,I1,r,z,q⟩=>⟨by rw[←r.length];exact z,?_⟩)
 have hf:H1 s1.heap.objs.size=none:=I1.hok.fresh (Nat.le_refl _)
 refine⟨.ref s1.heap.objs.size,upd H1 s1.heap.objs.size (.lst xs),I1.laid (t':=s1.toks) (λb u e=>Heap.get?_push_of_some _ e) (Nat.le_refl _) ?_,rfl,q _ hf⟩
 exact⟨z,us,0,r,Heap.get?_push_size _ rfl⟩
end
abbrev Sp:=List V→Hp→VK→XK→Prop
abbrev CXT:=List Env→Hp→Shared→XK→Value→Shared→Prop
structure Env0 (P:Program) (w:World) (K:PySem.W.Frag) (mg:Str→Option Value) (base:Heap) (A:Around) (outer:List Env) (s:Shared) (H:Hp):Prop where
 frames:A.frames=some outer
 mod:Mod K mg base
 bs:∀b o,base.get? b=some o→s.heap.get? b=some o∧H b=none
 bsz:base.objs.size≤s.heap.objs.size
 funs:s.heap.FunFrames base outer
 frf:∀b∈frs outer,H b=none
 hok:HOk P w H s.heap
 bare:AllBare s.gens
def CE (outer:List Env) (P:Program) (w:World) (H:Hp) (s:Shared) (Q:VK) (u:Value) (s':Shared):Prop :=
 ∃v H',s'.os=s.os∧AllBare s'.gens∧Un (frs outer) [] H H' s.heap s'.heap∧HOk P w H' s'.heap∧RelV v u∧Q v H'
def CR (CX:CXT) (outer:List Env) (P:Program) (w:World) (H:Hp) (s:Shared) (Q:VK) (E:XK) (r:Result) (s':Shared):Prop :=
 match r with
 | .ok (.ret u)=>CE outer P w H s Q u s'
 | .ok _=>False
 | .error e=>CX outer H s E e s'
structure FnOk (P:Program) (w:World) (K:PySem.W.Frag) (mg:Str→Option Value) (base:Heap) (CX:CXT) (k:Nat) (f:Addr) (fd:FuncData) (ps:List Str) (sp:Sp):Prop where
 len:∀vs H Q E,sp vs H Q E→vs.length=ps.length
 run:∀(A:Around) (outer:List Env) (s:Shared) (H:Hp) (args:Args) (us:List Value) (vs:List V) (Q:VK) (E:XK),Room k A→Env0 P w K mg base A outer s H→BindsTo s fd args (ps.zip us)→Vals vs us→sp vs H Q E→
  codeAny (model P w) A (.call (.ref f) args) (CR CX outer P w H s Q E) s
theorem Env0.make {P:Program} {w:World} {K:PySem.W.Frag} {mg:Str→Option Value} {base:Heap} {A:Around} {outer:List Env} {s:Shared} {H:Hp} (e:Env0 P w K mg base A outer s H) (C:Addr) (us:List Value) (kw:List (Str×Value)) :
  Env0 P w K mg base (A.under (.builtin "type.__call__" ⟨.ref C::us,kw⟩)) outer s H:=⟨by first|exact e.frames|(simpa[Around.under,Code.envs,Code.isFrame,pushEnvs] using e.frames),e.mod,e.bs,e.bsz,e.funs,e.frf,e.hok,e.bare⟩
section
variable {X:Cx} {pins:List (Addr×Obj)} {σ:St} {H:Hp} {s s':Shared}
theorem Inv.env0 (I:Inv X pins σ H s):Env0 X.prog X.w X.K X.mg X.base X.A X.stack s H :=
 ⟨I.ok.frames,I.ok.mod,I.bs,Nat.le_trans I.ok.bsz I.sz,I.stack,I.stkFree,I.hok,I.bare⟩
theorem Inv.after {Q:VK} {u:Value} (I:Inv X pins σ H s) (h:CE X.stack X.prog X.w H s Q u s'):EP X pins σ Q u s':=by
 obtain⟨v,H',os,bare,un,hok,r,q⟩:=h
 obtain⟨hh,g,d,t,os'⟩:=s'
 obtain rfl:os'=s.os:=os
 exact⟨v,H',I.call (h':=hh) (g':=g) (d':=d) (t':=t) (ch:=[]) un hok bare (λb z=>absurd z (by simp)),r,q⟩
end
def tCall (sp:Sp) (dvs:List V) (E:XK) (t:TA):TE:=λσ H Q=>t σ H λvs H1=>sp (vs++dvs) H1 Q E
def tMeth (C:Addr) (m:Str) (sp:Sp) (dvs:List V) (E:XK) (ta:TE) (t:TA):TE:=λσ H Q=>ta σ H λx H1=>∃a dx fs,x=.ref a∧H1 a=some (.ins C dx fs)∧fs.lookup m=none∧
 t σ H1 λvs H2=>sp (x::(vs++dvs)) H2 Q E
def tMake (C:Addr) (sp:Sp) (dvs:List V) (E:XK) (t:TA):TE:=λσ H Q=>t σ H λvs H1=>∀x dx,H1 x=none→H1 dx=none→dx≠x→
 sp (.ref x::(vs++dvs)) (upd (upd H1 dx (.own x)) x (.ins C dx [])) (λv H2=>v=.non∧Q (.ref x) H2) E
def Binds (K:PySem.W.Frag) (fd:FuncData) (ps:List Str) (ds:List Value):Prop :=
 ∀(s:Shared) (us:List Value),K.In s.heap→(us++ds).length=ps.length→BindsTo s fd ⟨us,[]⟩ (ps.zip (us++ds))
theorem Binds.all {K:PySem.W.Frag} {fd:FuncData} {ps:List Str} (h:∀us:List Value,us.length=ps.length→bindArgs fd ⟨us,[]⟩=pure (ps.zip us)):Binds K fd ps []:=λs us _ hl=>by
 rw[List.append_nil] at hl ⊢
 exact .of_eq (h us hl)
def Passes (CX:CXT) (X:Cx) (E:XK):Prop:=∀(pins:List (Addr×Obj)) (σ:St) (H:Hp) (s:Shared) (e:Value) (s':Shared),Inv X pins σ H s→CX X.stack H s E e s'→X.xe e s'
section
variable {X:Cx} {CX:CXT} {k:Nat} {f C:Addr} {fd:FuncData} {ps:List Str} {sp:Sp} {dvs:List V} {ds:List Value} {E:XK} {x m:Str} {p pos apos:Pos} {e o:Expr} {es:List Expr} {ta:TE} {t:TA}
theorem znD {pins:List (Addr×Obj)} {σ:St} {H:Hp} {s:Shared} {Q:VK} {us:List Value} {vs:List V} (F:FnOk X.prog X.w X.K X.mg X.base CX k f fd ps sp) (hr:Room k X.A) (hb:Binds X.K fd ps ds) (hd:Vals dvs ds) (hx:Passes CX X E)
  (I:Inv X pins σ H s) (r:Vals vs us) (h:sp (vs++dvs) H Q E):wpAny (model X.prog X.w) X.A (call (.ref f) us) (EP X pins σ Q) X.xe s:=by
 have r2:Vals (vs++dvs) (us++ds):=r.append hd
 have hl:(us++ds).length=ps.length:=by rw[←r2.length];exact F.len _ _ _ _ h
 refine wpAny_call (codeAny_mono (F.run X.A X.stack s H ⟨us,[]⟩ (us++ds) (vs++dvs) Q E hr I.env0 (hb s us I.kIn hl) r2 h) λr s' hq=>?_)
 cases r with
 | error e=>exact hx pins σ H s e s' I hq
 | ok fl =>
  cases fl with
  | ret u=>exact I.after hq
  | next=>exact False.elim hq
  | brk=>exact False.elim hq
  | cont=>exact False.elim hq
theorem zqo (F:FnOk X.prog X.w X.K X.mg X.base CX k f fd ps sp) (hr:Room k X.A) (hg:Gl X x) (hm:X.mg x=some (.ref f)) (hk:PySem.W.keepIn X.K (.ref f)=true) (hb:Binds X.K fd ps ds) (hd:Vals dvs ds) (hx:Passes CX X E)
  (ha:PA X (e::es) t) (hdb:(x == ("__debug__":Str))=false:=by decide) (he:starEach (e::es) X.env=(false,eval e X.env)::starEach es X.env:=by rfl) (hpl:(backTo pos (starEach es X.env)).any (·.1)=false:=by rfl) :
  PE X (.Call (.Name x p) (e::es) [] pos) (tCall sp dvs E t):=by
 intro pins s σ H Q I h
 refine wpAny_Call_Name_kw (zg6 I hg hm ?_ hdb)
 refine PySem.W.callWith_K (h₀:=X.base) I.ok.mod.kin hk (thn (ha pos pins s σ H _ I h) λus s1 ⟨vs,H1,I1,r,q⟩=>⟨I1.kIn,?_⟩) he hpl
 exact znD F hr hb hd hx I1 r q
theorem zql {pl:Sem Bool} (he:PE X o ta) (c:Cls X.K C) (hm:Meth X.K C m f) (F:FnOk X.prog X.w X.K X.mg X.base CX k f fd ps sp) (hr:Room k X.A) (hb:Binds X.K fd ps ds) (hd:Vals dvs ds) (hx:Passes CX X E) (ha:PA X (e::es) t)
  (hst:starEach (e::es) X.env=(false,eval e X.env)::starEach es X.env:=by rfl) (hpl:(backTo pos (starEach es X.env)).any (·.1)=false:=by rfl)
  (ht:eval (.Call (.Attribute o m apos) (e::es) [] pos) X.env=(do
   let ov ←eval o X.env
   standAt apos.atName
   let (f,first) ←holding [ov] (getMethod ov m pl)
   callWith pos f first (backTo pos (starEach (e::es) X.env)) (backToKw pos (keywordEach [] X.env))):=by rfl) :
  PE X (.Call (.Attribute o m apos) (e::es) [] pos) (tMeth C m sp dvs E ta t):=by
 intro pins s σ H Q I h
 refine PySem.W.methodCall_KW (pl:=pl) (thn (he pins s σ H _ I h) λu s1 ⟨x,H1,I1,rx,a,dx,fs,ex,ea,l,q⟩=>?_) ht
 subst ex
 obtain rfl:u=Value.ref a:=rx
 refine zgc I1 ea c hm l ?_
 refine PySem.W.callWith_K (first:=[.ref a]) (h₀:=X.base) I.ok.mod.kin hm.kp (thn (ha pos pins s1 σ H1 _ I1 q) λus s2 ⟨vs,H2,I2,r,q2⟩=>⟨I2.kIn,?_⟩) hst hpl
 exact znD (us:=.ref a::us) (vs:=.ref a::vs) F hr hb hd hx I2 (.cons rfl r) q2
theorem zpn {pl:Sem Bool} (he:PE X o ta) (c:Cls X.K C) (hm:Meth X.K C m f) (F:FnOk X.prog X.w X.K X.mg X.base CX k f fd ps sp) (hr:Room k X.A) (hb:Binds X.K fd ps ds) (hd:Vals dvs ds) (hx:Passes CX X E)
  (ht:eval (.Call (.Attribute o m apos) [] [] pos) X.env=(do
   let ov ←eval o X.env
   standAt apos.atName
   let (f,first) ←holding [ov] (getMethod ov m pl)
   callWith pos f first (backTo pos (starEach [] X.env)) (backToKw pos (keywordEach [] X.env))):=by rfl) :
  PE X (.Call (.Attribute o m apos) [] [] pos) (tMeth C m sp dvs E ta tNil):=by
 intro pins s σ H Q I h
 refine PySem.W.methodCall_KW (pl:=pl) (thn (he pins s σ H _ I h) λu s1 ⟨x,H1,I1,rx,a,dx,fs,ex,ea,l,q⟩=>?_) ht
 subst ex
 obtain rfl:u=Value.ref a:=rx
 refine zgc I1 ea c hm l ?_
 exact PySem.W.callWith_K0 (first:=[.ref a]) I1.kIn hm.kp (znD (us:=[.ref a]) (vs:=[.ref a]) F hr hb hd hx I1 (.cons rfl .nil) q)
structure Mk (K:PySem.W.Frag) (C f:Addr):Prop where
 makes:PySem.W.makesIn K C=true
 init:PySem.W.findIn K (.ref C) "__init__"=some (some (.ref f))
 fn:PySem.W.isFn K (.ref f)=true
 kp:PySem.W.keepIn K (.ref C)=true
theorem zpa {pins:List (Addr×Obj)} {σ:St} {H:Hp} {s:Shared} {Q:VK} {us:List Value} {vs:List V} (M:Mk X.K C f) (F:FnOk X.prog X.w X.K X.mg X.base CX k f fd ps sp) (hr:Room (k+1) X.A) (hb:Binds X.K fd ps ds) (hd:Vals dvs ds)
  (hx:Passes CX X E) (I:Inv X pins σ H s) (r:Vals vs us)
  (h:∀x dx,H x=none→H dx=none→dx≠x→sp (.ref x::(vs++dvs)) (upd (upd H dx (.own x)) x (.ins C dx [])) (λv H2=>v=.non∧Q (.ref x) H2) E) :
  wpAny (model X.prog X.w) X.A (call (.ref C) us) (EP X pins σ Q) X.xe s:=by
 have hq:=h (s.heap.objs.size+1) s.heap.objs.size (I.hok.fresh (Nat.le_succ _)) (I.hok.fresh (Nat.le_refl _)) (Nat.ne_of_lt (Nat.lt_succ_self _))
 have I2:=Inv.made (C:=C) I
 have r2:Vals (V.ref (s.heap.objs.size+1)::(vs++dvs)) (Value.ref (s.heap.objs.size+1)::(us++ds)):=.cons rfl (r.append hd)
 have hl:(Value.ref (s.heap.objs.size+1)::us++ds).length=ps.length:=by
  have e:=r2.length
  rw[F.len _ _ _ _ hq] at e
  exact e.symm
 refine wpAny_call (zpy (f:=f) I.kIn M.makes M.init (beq_iff_eq.mp M.fn) (codeAny_mono (F.run _ X.stack _ _ ⟨Value.ref (s.heap.objs.size+1)::us,[]⟩ (Value.ref (s.heap.objs.size+1)::(us++ds)) _ _ E (hr.make C us [])
  (I2.env0.make C us []) (hb _ (Value.ref (s.heap.objs.size+1)::us) I2.kIn hl) r2 hq) λr s' hq'=>?_))
 cases r with
 | error e=>exact hx pins σ _ _ e s' I2 hq'
 | ok fl =>
  cases fl with
  | ret u =>
   obtain⟨v,H',I3,rv,ev,q3⟩:=I2.after hq'
   subst ev
   exact⟨rv,⟨V.ref (s.heap.objs.size+1),H',I3,rfl,q3⟩⟩
  | next=>exact False.elim hq'
  | brk=>exact False.elim hq'
  | cont=>exact False.elim hq'
theorem zqm (M:Mk X.K C f) (F:FnOk X.prog X.w X.K X.mg X.base CX k f fd ps sp) (hr:Room (k+1) X.A) (hg:Gl X x) (hm:X.mg x=some (.ref C)) (hb:Binds X.K fd ps ds) (hd:Vals dvs ds) (hx:Passes CX X E)
  (ha:PA X (e::es) t) (hdb:(x == ("__debug__":Str))=false:=by decide) (he:starEach (e::es) X.env=(false,eval e X.env)::starEach es X.env:=by rfl) (hpl:(backTo pos (starEach es X.env)).any (·.1)=false:=by rfl) :
  PE X (.Call (.Name x p) (e::es) [] pos) (tMake C sp dvs E t):=by
 intro pins s σ H Q I h
 refine wpAny_Call_Name_kw (zg6 I hg hm ?_ hdb)
 refine PySem.W.callWith_K (h₀:=X.base) I.ok.mod.kin M.kp (thn (ha pos pins s σ H _ I h) λus s1 ⟨vs,H1,I1,r,q⟩=>⟨I1.kIn,?_⟩) he hpl
 exact zpa M F hr hb hd hx I1 r q
end
section
variable {X:Cx} {CX:CXT} {k:Nat} {f C:Addr} {fd:FuncData} {ps ks:List Str} {sp:Sp} {E:XK} {x m:Str} {p pos apos kpos:Pos} {e o:Expr} {es:List Expr} {kws:List Keyword} {te ta:TE} {t tk:TA} {nm:Option Str}
variable {g:List Value→List Value→List Value} {gV:List V→List V→List V}
end
structure FnScope (N P:List Str) (sc:Scope):Prop where
 kind:sc.kind=.function
 co:sc.isCoroutine=false
 gen:sc.isGenerator=false
 nd:N.Nodup
 pre:N.take P.length=P
 par:∀x∈P,sc.names.lookup x=some .local∨sc.names.lookup x=some .cell
 nofree:∀y∈sc.names,y.2≠.free
theorem zl8 {kindOf:Str→Option NameKind} {x:Str}:∀{binds:List (Str×Value)} {m:Str→Option Value},(∀v,(x,v)∉binds)→bindL kindOf binds m x=m x
 | [],_,_=>rfl
 | (n,v)::r,m,h=>by
  unfold bindL
  rw[zl8 λw hw=>h w (List.mem_cons_of_mem _ hw)]
  split
  ·have:x≠n:=by rintro rfl;exact h v List.mem_cons_self
   simp[this]
  ·rfl
theorem zla {kindOf:Str→Option NameKind} {x:Str}:∀{binds:List (Str×Value)} {m:Str→Option Value},(∀v,(x,v)∉binds)→bindC kindOf binds m x=m x
 | [],_,_=>rfl
 | (n,v)::r,m,h=>by
  unfold bindC
  rw[zla λw hw=>h w (List.mem_cons_of_mem _ hw)]
  split
  ·rfl
  ·have:x≠n:=by rintro rfl;exact h v List.mem_cons_self
   simp[this]
theorem zl9 {kindOf:Str→Option NameKind} {x:Str} {v:Value}:∀{P:List Str} {vs:List Value} {i:Nat} {m:Str→Option Value},P.Nodup→P[i]?=some x→vs[i]?=some v→kindOf x=some .local→
  bindL kindOf (P.zip vs) m x=some v
 | [],_,_,_,_,h,_,_=>by simp at h
 | _::_,[],_,_,_,_,h,_=>by simp at h
 | p::P,w::vs,0,m,nd,h1,h2,hk=>by
  simp at h1 h2;subst h1;subst h2
  show bindL kindOf ((p,w)::P.zip vs) m p=_
  unfold bindL
  rw[zl8 λv hv=>(List.nodup_cons.mp nd).1 (List.of_mem_zip hv).1,if_pos hk]
  simp
 | p::P,w::vs,i+1,m,nd,h1,h2,hk=>by
  show bindL kindOf ((p,w)::P.zip vs) m x=_
  unfold bindL
  exact zl9 (i:=i) (List.nodup_cons.mp nd).2 (by simpa using h1) (by simpa using h2) hk
theorem zlb {kindOf:Str→Option NameKind} {x:Str} {v:Value}:∀{P:List Str} {vs:List Value} {i:Nat} {m:Str→Option Value},P.Nodup→P[i]?=some x→vs[i]?=some v→kindOf x≠some .local→
  bindC kindOf (P.zip vs) m x=some v
 | [],_,_,_,_,h,_,_=>by simp at h
 | _::_,[],_,_,_,_,h,_=>by simp at h
 | p::P,w::vs,0,m,nd,h1,h2,hk=>by
  simp at h1 h2;subst h1;subst h2
  show bindC kindOf ((p,w)::P.zip vs) m p=_
  unfold bindC
  rw[zla λv hv=>(List.nodup_cons.mp nd).1 (List.of_mem_zip hv).1,if_neg hk]
  simp
 | p::P,w::vs,i+1,m,nd,h1,h2,hk=>by
  show bindC kindOf ((p,w)::P.zip vs) m x=_
  unfold bindC
  exact zlb (i:=i) (List.nodup_cons.mp nd).2 (by simpa using h1) (by simpa using h2) hk
def start (N:List Str) (vs:List V):St:=vs.map some++List.replicate (N.length - vs.length) none
def cxOf (CX:CXT) (P:Program) (w:World) (K:PySem.W.Frag) (mg:Str→Option Value) (base:Heap) (N:List Str) (qual:Str) (scope:Scope) (f:Addr) (cd:Value) (A:Around) (outer:List Env) (s:Shared) (H:Hp) (E:XK):Cx where
 prog:=P
 w:=w
 K:=K
 mg:=mg
 base:=base
 A:=A.deeper (envOfC qual scope s.heap.objs.size f cd)
 N:=N
 s_0:=s
 H_0:=H
 env:=envOfC qual scope s.heap.objs.size f cd
 outer:=outer
 stack:=envOfC qual scope s.heap.objs.size f cd::outer
 ex:=[]
 calm:=true
 fn:=λ_=>true
 pn:=[]
 xe:=λe s'=>wpAny (model P w) (A.deeper (envOfC qual scope s.heap.objs.size f cd)) (leaving (envOfC qual scope s.heap.objs.size f cd) e) (λ_ s''=>CX outer H s E e s'') (λe' s''=>CX outer H s E e' s'') s'
theorem zmB {sc:Scope} {n:Nat} {x:Str} (h:sc.names.lookup x=some .cell):∃c,(cellsFrom n sc.names []).lookup x=some c:=by
 have q:=PySem.W.cellsFrom_some sc.names n [] (.inl h)
 exact Option.isSome_iff_exists.mp q
theorem zof {CX:CXT} {P:Program} {w:World} {K:PySem.W.Frag} {mg:Str→Option Value} {base:Heap} {N ps:List Str} {qual:Str} {scope:Scope} {f:Addr} {cd:Value} {A:Around} {outer:List Env} {s s1:Shared} {H:Hp} {E:XK} {us:List Value} {vs:List V}
  (S:FnScope N ps scope) (hd:A.handled=none) (e0:Env0 P w K mg base A outer s H) (hl:vs.length=ps.length) (r:Vals vs us)
  (x:InCallC s s.heap.objs.size (bindL (envOfC qual scope s.heap.objs.size f cd).kindOf (ps.zip us) λ_=>none) (cellsFrom (s.heap.objs.size+1) scope.names []) (bindC (envOfC qual scope s.heap.objs.size f cd).kindOf (ps.zip us) λ_=>none) s1) :
  Inv (cxOf CX P w K mg base N qual scope f cd A outer s H E) [] (start N vs) H s1:=by
 have hpl:ps.length≤N.length:=by have:=congrArg List.length S.pre;rw[List.length_take] at this;omega
 obtain⟨h1,tk,rfl,hk⟩:=x.done
 have noA:∀b:Addr,b∉(cxOf CX P w K mg base N qual scope f cd A outer s H E).ex:=λb z=>absurd (show b∈([]:List Addr) from z) (by simp)
 refine⟨⟨e0.mod,S.kind,rfl,rfl,Nat.le_refl _,λy z c h1 h2=>?_,λy hy=>?_,λy c _ h=>?_,λ_=>hd,Around.frames_deeper e0.frames,.inr ⟨rfl,rfl⟩,λb z=>absurd z (noA b),e0.bs,e0.bsz,λb _ _=>noA b,λb z=>absurd z (noA b),e0.funs,e0.frf⟩,
  rfl,e0.bare,Un.kept hk,⟨_,x.toInCall.ns,λi y v h1 h2 h3=>?_⟩,λy c h=>⟨_,x.cell y c h⟩,e0.hok.fresh (Nat.le_refl _),λy c h=>?_,λp hp=>absurd (show p∈([]:List (Addr×Obj)) from hp) (by simp),e0.hok.kept hk,?_⟩
 ·exact name_of_addr x.apart (PySem.mem_of_lookup h1) (PySem.mem_of_lookup h2)
 ·have hy:scope.names.lookup y=some .cell∨scope.names.lookup y=some .free:=hy
  rcases hy with hy|hy
  ·exact zmB hy
  ·exact absurd rfl (S.nofree _ (PySem.mem_of_lookup hy))
 ·exact Nat.le_of_lt (x.above y c (PySem.mem_of_lookup h))
 ·have hi:i < vs.length:=by
   unfold start at h2
   by_cases hi:i < vs.length
   ·exact hi
   ·rw[List.getElem?_append_right (by simpa using hi)] at h2
    rw[List.getElem?_replicate] at h2
    split at h2<;>cases h2
  have ha:vs[i]?=some v:=by
   unfold start at h2
   rw[List.getElem?_append_left (by simpa using hi),List.getElem?_map] at h2
   cases e:vs[i]? with
   | none=>rw[e] at h2;cases h2
   | some a=>rw[e] at h2;cases h2;rfl
  obtain⟨u,hu,rv⟩:=r.get ha
  have hp:ps[i]?=some y:=by
   rw[←S.pre,List.getElem?_take_of_lt (by omega)];exact h1
  have ndP:ps.Nodup:=by rw[←S.pre];exact S.nd.sublist (List.take_sublist _ _)
  refine⟨u,rv,?_⟩
  rcases S.par y (List.mem_of_getElem? hp) with k|k
  ·exact .inl ⟨k,zl9 ndP hp hu k⟩
  ·obtain⟨c,e⟩:=zmB (n:=s.heap.objs.size+1) k
   refine .inr ⟨.inl k,c,e,?_⟩
   have q:=x.cell y c e
   rw[zlb ndP hp hu (by show scope.names.lookup y≠_;rw[k];decide)] at q
   exact q
 ·exact e0.hok.fresh (Nat.le_of_lt (x.above y c (PySem.mem_of_lookup h)))
 ·unfold start
  show _=N.length
  rw[List.length_append,List.length_map,List.length_replicate]
  omega
theorem fn_of {CX:CXT} {P:Program} {w:World} {K:PySem.W.Frag} {mg:Str→Option Value} {base:Heap} {k:Nat} {f:Addr} {name qual:Str} {params:Arguments} {body:List Stmt} {scope:Scope} {dV kV doc pm cdv ct oc:Value} {an od:Option Addr}
  {osl:Array (Option Value)} {N ps:List Str} {sp:Sp} (lk:K.lookup f=some ⟨oc,od,.func (PySem.W.fnOf name qual params body scope dV kV doc pm an cdv ct),osl⟩) (hcd:PySem.W.codeIn K cdv qual=true) (S:FnScope N ps scope)
  (len:∀vs H Q E,sp vs H Q E→vs.length=ps.length)
  (hbody:∀(A:Around) (outer:List Env) (s:Shared) (H:Hp) (vs:List V) (Q:VK) (E:XK),Room k (A.deeper (envOfC qual scope s.heap.objs.size f cdv))→sp vs H Q E→
   ∃t,PSs (cxOf CX P w K mg base N qual scope f cdv A outer s H E) body t∧t { nx:=λ_ H'=>Q .non H',rt:=Q } (start N vs) H) :
  FnOk P w K mg base CX (k+1) f (PySem.W.fnOf name qual params body scope dV kV doc pm an cdv ct) ps sp:=by
 refine⟨len,λA outer s H args us vs Q E hr e0 hb r hsp=>?_⟩
 have hl:=len _ _ _ _ hsp
 have KX:K.In s.heap:=e0.mod.kin.keeps λb o e=>(e0.bs b o e).1
 have lim:s.heap.NoLimit:=e0.mod.nolimit.keeps λb o e=>(e0.bs b o e).1
 have hkind:∀y∈ps.zip us,scope.names.lookup y.1=some .local∨(scope.names.lookup y.1=some .cell∧((cellsFrom (s.heap.objs.size+1) scope.names []).lookup y.1).isSome=true):=λ⟨n,v⟩ hy=>by
  rcases S.par n (List.of_mem_zip hy).1 with q|q
  ·exact .inl q
  ·exact .inr ⟨q,PySem.W.cellsFrom_some _ _ _ (.inl q)⟩
 refine codeAny_call_function hr.depth (KX _ _ lk) rfl S.co S.gen rfl (PySem.W.codeRec_of KX hcd) (hb _ _ _ _ ?_)
 refine wpAny_newFunctionEnv_cells S.kind hkind λenv he s1 x=>?_
 subst he
 refine⟨lim.keeps x.toInCall.keep,codeAny_func ?_⟩
 obtain⟨t,ht,hq⟩:=hbody A outer s H vs Q E (hr.deeper _) hsp
 have I:Inv (cxOf CX P w K mg base N qual scope f cdv A outer s H E) [] (start N vs) H s1:=zof S hr.hd e0 hl r x
 refine wpAny_mono (ht [] s1 (start N vs) H _ I hq) (λfl s' hs=>?_) λe s' hs=>hs
 have fin:∀{σ':St} {H':Hp} {v:V} {u:Value},Inv (cxOf CX P w K mg base N qual scope f cdv A outer s H E) [] σ' H' s'→RelV v u→Q v H'→CE outer P w H s Q u s' :=
  λ{σ' H' v u} J rv q=>⟨v,H',J.os,J.bare,J.base,J.hok,rv,q⟩
 cases fl with
 | ret u =>
  obtain⟨v,σ',H',J,rv,q⟩:=hs
  exact fin J rv q
 | next =>
  obtain⟨σ',H',J,q⟩:=hs
  exact fin (v:=V.non) (u:=Value.none) J rfl q
 | brk =>
  obtain⟨_,_,_,q⟩:=hs
  exact False.elim q
 | cont =>
  obtain⟨_,_,_,q⟩:=hs
  exact False.elim q
end L2
namespace L2
open PySem PySem.Spec PyProof.Rows
section
variable {X:Cx} {x:Str} {p pos:Pos} {e:Expr} {es:List Expr} {t:TA} {id T:String} {r:List V→Hp→VK→Prop}
def tCB (r:List V→Hp→VK→Prop) (t:TA):TE:=λσ H Q=>t σ H λvs H1=>r vs H1 Q
theorem zai (hc:CallR X (.builtin id) r) (hg:Gl X x) (hm:X.mg x=none) (hv:bootBuiltins x=some (.builtin id)) (ha:PA X (e::es) t) (hn:x≠"__name__":=by decide) (hdb:(x == ("__debug__":Str))=false:=by decide)
  (he:starEach (e::es) X.env=(false,eval e X.env)::starEach es X.env:=by rfl) (hpl:(backTo pos (starEach es X.env)).any (·.1)=false:=by rfl):PE X (.Call (.Name x p) (e::es) [] pos) (tCB r t):=by
 intro pins s σ H Q I h
 refine wpAny_Call_Name_kw (zgM I hg hm hv ?_ hn hdb)
 exact PyProof.Rows.callWith_builtin1 (thn (ha pos pins s σ H _ I h) λus s1 ⟨vs,H1,I1,r1,q1⟩=>hc pins s1 σ H1 vs us Q I1 r1 q1) he hpl
theorem zkx (hc:CallR X (.type T) r) (hg:Gl X x) (hm:X.mg x=none) (hv:bootBuiltins x=some (.type T)) (ha:PA X (e::es) t) (hn:x≠"__name__":=by decide) (hdb:(x == ("__debug__":Str))=false:=by decide)
  (he:starEach (e::es) X.env=(false,eval e X.env)::starEach es X.env:=by rfl) (hpl:(backTo pos (starEach es X.env)).any (·.1)=false:=by rfl):PE X (.Call (.Name x p) (e::es) [] pos) (tCB r t):=by
 intro pins s σ H Q I h
 refine wpAny_Call_Name_kw (zgM I hg hm hv ?_ hn hdb)
 exact PyProof.Rows.callWith_type1 (thn (ha pos pins s σ H _ I h) λus s1 ⟨vs,H1,I1,r1,q1⟩=>hc pins s1 σ H1 vs us Q I1 r1 q1) he hpl
end
end L2
namespace HT
open PySem PyProof.Rows
def lexLt:List Int→List Int→Bool
 | [],[]=>false
 | [],_::_=>true
 | _::_,[]=>false
 | x::xs,y::ys=>if x=y then lexLt xs ys else decide (x < y)
theorem zcI (x y:Int) (xs ys:List Int):lexLt (x::xs) (y::ys)=if x=y then lexLt xs ys else decide (x < y):=rfl
theorem zfD:lexLt [] []=false:=rfl
theorem ziG (y:Int) (ys:List Int):lexLt [] (y::ys)=true:=rfl
theorem ziH (x:Int) (xs:List Int):lexLt (x::xs) []=false:=rfl
theorem zpL (A:Around) (s:Shared) (a:Int) (t:Tok) (c:Int) (u:Tok):∃e,SeqAt.EqAt A s (.int a t) (.int c u) e∧(e=true↔a=c) :=
 ⟨(a == c),SeqAt.EqAt.int_int a t c u,by simp⟩
theorem zpf (A:Around) (s:Shared) (a:Int) (t:Tok) (c:Int) (u:Tok) (prog:Program) (w:World) (E:Value→Shared→Prop) (Q:Value→Shared→Prop) (h:Q (.bool (decide (a < c))) s) :
  wpAny (model prog w) A (richCompare .Lt (.int a t) (.int c u)) Q E s :=
 (PyProof.Rows.lt_int h:wpAny (model prog w) A (compareOp .Lt (.int a t) (.int c u)) Q E s)
section
open PySem.SeqAt
open PySem.AutoSeq1 (wpAny_loadPart')
open PySem.MeetsSeq PySem.MeetsSeq2 PySem.MeetsSeq3
theorem zjh (l b:Addr) (items items2:Array Value) (n n2:Nat) (dd dd2:Option Addr) (sl sl2:Array (Option Value)) (ns ms:List Int) (hi:IntsAre items.toList ns) (hj:IntsAre items2.toList ms) :
  Meets (Builtin.«tuple.__lt__» ⟨[.ref l,.ref b],[]⟩)
   (λ_ R s=>s.heap.get? l=some { cls:=.type "tuple",dict:=dd,data:=.seq items n,slots:=sl }∧s.heap.get? b=some { cls:=.type "tuple",dict:=dd2,data:=.seq items2 n2,slots:=sl2 }∧
    R (.ok (.ret (.bool (lexLt ns ms)))) s) :=
 .of_wp λprog w A R s h=>by
  obtain⟨hp,g,d,tk,os⟩:=s;obtain⟨hl,hb,h⟩:=h
  have f2:=AutoSeq1.sub_tuple_tuple
  have z1:items.size=ns.length:=by rw[←hi.length];simp
  have z2:items2.size=ms.length:=by rw[←hj.length];simp
  wp_walk using wpAny_loadPart' hl,wpAny_loadPart' hb,wpAny_forIn_list _ (λrest b s'=>b.1=none∧s'=⟨hp,g,d,tk,os⟩∧∃(vs ws:List Value) (ns' ms':List Int),rest=vs.zip ws∧
   IntsAre vs ns'∧IntsAre ws ms'∧ns'.length+items2.size=ms'.length+items.size∧R (.ok (.ret (.bool (lexLt ns' ms')))) ⟨hp,g,d,tk,os⟩) _
  case turn =>
   rintro ⟨y,x⟩ rest b s' ⟨hb',rfl,vs,ws,ns',ms',hz,hvi,hwi,hlen,hR⟩
   cases hvi with
   | nil=>rw[List.zip_nil_left] at hz;cases hz
   | cons a t hvi' =>
    cases hwi with
    | nil=>rw[List.zip_nil_right] at hz;cases hz
    | cons c u hwi' =>
     rw[List.zip_cons_cons] at hz
     injection hz with hyx hrest
     injection hyx with hy hx
     subst hy hx
     rw[zcI] at hR
     simp only[List.length_cons] at hlen
     obtain⟨e,he,hiff⟩:=zpL A.in1 ⟨hp,g,d,tk,os⟩ a t c u
     refine wpAny_bind (he prog w _ _ ?_)
     cases e with
     | true =>
      rw[if_pos (hiff.mp rfl)] at hR
      wp_walk
      exact⟨rfl,rfl,_,_,_,_,hrest,hvi',hwi',by omega,hR⟩
     | false =>
      rw[if_neg (λq=>absurd (hiff.mpr q) Bool.false_ne_true)] at hR
      have hri:=zpf A.in1 ⟨hp,g,d,tk,os⟩ a t c u prog w
      wp_walk using hri
      exact⟨_,rfl,by simpa using hR⟩
  case fin =>
   rintro ⟨b1,b2⟩ s' ⟨hb',rfl,vs,ws,ns',ms',hz,hvi,hwi,hlen,hR⟩
   simp only at hb'
   subst hb'
   have hv:lexLt ns' ms'=decide (items.size < items2.size):=by
    cases hvi with
    | nil =>
     cases hwi with
     | nil =>
      simp only[List.length_nil] at hlen
      rw[zfD]
      exact(decide_eq_false (by omega)).symm
     | cons c u hw =>
      simp only[List.length_nil,List.length_cons] at hlen
      rw[ziG]
      exact(decide_eq_true (by omega)).symm
    | cons a t hv =>
     cases hwi with
     | nil =>
      simp only[List.length_nil,List.length_cons] at hlen
      rw[ziH]
      exact(decide_eq_false (by omega)).symm
     | cons c u hw =>
      rw[List.zip_cons_cons] at hz
      cases hz
   rw[hv] at hR
   wp_walk
   exact⟨_,rfl,by simpa[Builtin.Tuple.tupleCompareSizes] using hR⟩
  case h =>
   exact⟨rfl,rfl,items.toList,items2.toList,ns,ms,rfl,hi,hj,by omega,h⟩
end
section
variable {prog:Program} {w:World} {A:Around} {E:Value→Shared→Prop} {s:Shared}
theorem zn0 {l b:Addr} {items items2:Array Value} {ns ms:List Int} {Q:Value→Shared→Prop} (hl:IsTup s.heap l items) (hb:IsTup s.heap b items2) (hi:IntsAre items.toList ns) (hj:IntsAre items2.toList ms)
  (hu:A.units < cLine) (h:Q (.bool (lexLt ns ms)) s):wpAny (model prog w) A (compareOp .Lt (.ref l) (.ref b)) Q E s:=by
 obtain⟨⟨cls,dd,data,sl⟩,ho,hc,n,hd⟩:=id hl
 obtain⟨⟨cls2,dd2,data2,sl2⟩,ho2,hc2,n2,hd2⟩:=id hb
 simp only at hc hd hc2 hd2
 subst hc hd hc2 hd2
 exact richCompare_meets_room (op:=.Lt) ⟨_,ho,rfl⟩ ⟨_,ho2,rfl⟩ PySem.F.slot_tuple_lt PySem.F.entry_tuple_lt (PySem.F.args_tuple_lt_2 _ _) (zjh l b items items2 n n2 dd dd2 sl sl2 ns ms hi hj)
  ⟨ho,ho2,show Value.bool (lexLt ns ms)≠Value.notImplemented∧Q (.bool (lexLt ns ms)) s from ⟨(λx=>nomatch x),h⟩⟩ hu
def sIx (n d:Nat):Option Int→Nat
 | none=>d
 | some v=>if v < 0 then (v+(n:Int)).toNat else min v.toNat n
theorem zmh (n d:Nat):sIx n d none=d:=rfl
theorem zlr (n d k:Nat):sIx n d (some (k:Int))=min k n:=by
 show (if (k:Int) < 0 then ((k:Int)+(n:Int)).toNat else min (k:Int).toNat n)=min k n
 rw[if_neg (by omega),Int.toNat_natCast]
end
end HT
namespace L2
open PySem PySem.Spec PyProof.Rows
abbrev TO:=St→Hp→(Option Int→Hp→Prop)→Prop
def PO (X:Cx) (e:Option Expr) (t:TO):Prop :=
 ∀(pins:List (Addr×Obj)) (s:Shared) (σ:St) (H:Hp) (Q:Option Int→Hp→Prop),Inv X pins σ H s→t σ H Q→
  wpAny (model X.prog X.w) X.A (evalPart e X.env) (λu s'=>∃o H',Inv X pins σ H' s'∧IsPart u o∧Q o H') X.xe s
def tNoPart:TO:=λ_ H Q=>Q none H
def tPart (t:TE):TO:=λσ H Q=>t σ H λx H1=>∃i,x=.int i∧Q (some i) H1
theorem intsAre_of {ns:List Int}:∀{us:List Value},Vals (ns.map V.int) us→IntsAre us ns:=by
 induction ns with
 | nil=>intro us r;rw[List.map_nil] at r;cases r;exact .nil
 | cons n ns ih =>
  intro us r
  rw[List.map_cons] at r
  cases r with
  | cons r1 r2 =>
   obtain⟨t,e⟩:=r1
   subst e
   exact .cons n t (ih r2)
section
variable {X:Cx} {e:Expr} {te:TE} {lo hi:Option Expr} {tl th:TO} {pos p2:Pos}
theorem znI:PO X none tNoPart:=by
 intro pins s σ H Q I h
 rw[evalPart_none]
 exact wpAny_pure ⟨none,H,I,.none,h⟩
theorem zfV (h:PE X e te):PO X (some e) (tPart te):=by
 intro pins s σ H Q I hw
 rw[evalPart_some]
 refine thn (h pins s σ H _ I hw) λu s1 ⟨x,H1,I1,r1,q1⟩=>?_
 obtain⟨i,rfl,q⟩:=q1
 obtain⟨t,rfl⟩:=r1
 exact⟨some i,H1,I1,.int i t,q⟩
def SlR (X:Cx) (r:V→Option Int→Option Int→Hp→VK→Prop):Prop :=
 ∀(pins:List (Addr×Obj)) (s:Shared) (σ:St) (H:Hp) (x:V) (v vl vu:Value) (lo hi:Option Int) (sl:Addr) (Q:VK),Inv X pins σ H s→RelV x v→s.heap.IsSliceOf sl vl vu .none→IsPart vl lo→IsPart vu hi→r x lo hi H Q→
  ∃T id,typeLookup (.type T) "__getitem__"=pure (some (.builtin id))∧s.TypeIs v T∧wpAny (model X.prog X.w) X.A (getItem v (.ref sl)) (EP X pins σ Q) X.xe s
def tSl (r:V→Option Int→Option Int→Hp→VK→Prop) (te:TE) (tl th:TO):TE:=λσ H Q=>te σ H λx H1=>tl σ H1 λl H2=>th σ H2 λu H3=>r x l u H3 Q
theorem zhe {r:V→Option Int→Option Int→Hp→VK→Prop} (hr:SlR X r) (he:PE X e te) (hl:PO X lo tl) (hu:PO X hi th):PE X (.Subscript e (.Slice lo hi none p2) pos) (tSl r te tl th):=by
 intro pins s σ H Q I h
 refine Subscript_ (thn (he pins s σ H _ I h) λv s1 ⟨x,H1,I1,r1,q1⟩=>?_)
 refine wpAny_Slice (thn (hl pins s1 σ H1 _ I1 q1) λvl s2 ⟨l,H2,I2,pl,q2⟩=>thn (hu pins s2 σ H2 _ I2 q2) λvu s3 ⟨u,H3,I3,pu,q3⟩=>?_)
 rw[evalPart_none]
 refine wpAny_pure ?_
 have I4:Inv X pins σ H3 { s3 with heap:=s3.heap.push { cls:=.type "slice",data:=.fields #[vl,vu,.none] } }:=I3.kept (t':=s3.toks) λb ob q=>Heap.get?_push_of_some _ q
 obtain⟨T,id,hT,ht,hg⟩:=hr pins { s3 with heap:=s3.heap.push { cls:=.type "slice",data:=.fields #[vl,vu,.none] } } σ H3 x v vl vu l u s3.heap.objs.size Q I4 r1 (Heap.IsSliceOf.new ..) pl pu q3
 show wpAny (model X.prog X.w) X.A (subscriptTail e (.Slice lo hi none p2) v (.ref s3.heap.objs.size)) (EP X pins σ Q) X.xe { s3 with heap:=s3.heap.push { cls:=.type "slice",data:=.fields #[vl,vu,.none] } }
 exact tail_any (ops:=[.ref s3.heap.objs.size,v]) ht hT hg (by with_unfolding_all rfl)
def cutV (xs:List V) (lo hi:Option Int):List V:=(xs.drop (HT.sIx xs.length 0 lo)).take (HT.sIx xs.length xs.length hi - HT.sIx xs.length 0 lo)
theorem zlY (xs:List V) (lo hi:Option Int):(cutV xs lo hi).length≤xs.length:=by
 unfold cutV
 rw[List.length_take,List.length_drop]
 omega
end
end L2
namespace L2
open PySem PySem.Spec PyProof.Rows
def ixN (n:Nat) (i:Int):Option Nat:=if 0≤i then (if i < n then some i.toNat else none) else if -(n:Int)≤i then some (i+n).toNat else none
def atI {α:Type} (xs:List α) (i:Int):Option α:=(ixN xs.length i).bind λj=>xs[j]?
theorem zqz {n:Nat} {i:Int} {j:Nat} (h:ixN n i=some j):seqIndex? i n=some j∧j < n∧-(n:Int)≤i∧i < n:=by
 unfold ixN at h
 by_cases h0:0≤i
 ·rw[if_pos h0] at h
  by_cases h1:i < n
  ·rw[if_pos h1] at h
   have e:i.toNat=j:=Option.some.inj h
   exact⟨by rw[seqIndex_of h0 h1,e],by omega,by omega,h1⟩
  ·rw[if_neg h1] at h;cases h
 ·rw[if_neg h0] at h
  by_cases h1:-(n:Int)≤i
  ·rw[if_pos h1] at h
   have e:(i+n).toNat=j:=Option.some.inj h
   exact⟨by rw[seqIndex_neg (by omega) h1,e],by omega,h1,by omega⟩
  ·rw[if_neg h1] at h;cases h
theorem zoW {α:Type} {xs:List α} {i:Int} {v:α} (h:atI xs i=some v):∃j,seqIndex? i xs.length=some j∧xs[j]?=some v∧j < xs.length∧-(xs.length:Int)≤i∧i < xs.length:=by
 unfold atI at h
 cases e:ixN xs.length i with
 | none=>rw[e] at h;cases h
 | some j =>
  rw[e] at h
  obtain⟨h1,h2,h3,h4⟩:=zqz e
  exact⟨j,h1,h,h2,h3,h4⟩
theorem zkb {α:Type} {xs:List α} {j:Nat} {v:α} (h:xs[j]?=some v):atI xs (j:Int)=some v:=by
 have hj:j < xs.length:=(List.getElem?_eq_some_iff.mp h).1
 have e:ixN xs.length (j:Int)=some j:=by
  unfold ixN
  rw[if_pos (by omega),if_pos (by omega)];simp
 unfold atI;rw[e];exact h
def PlainIx (b:Expr):Prop:=∀o i,subscripted b false o i=operate [o,i] (getItem o i)
def IxR (X:Cx) (r:R2):Prop :=
 ∀(value slice:Expr) (pins:List (Addr×Obj)) (s:Shared) (σ:St) (H:Hp) (x y:V) (v u:Value) (Q:VK),Inv X pins σ H s→RelV x v→RelV y u→r x y H Q→
  subscripted slice false v u=operate [v,u] (getItem v u)→wpAny (model X.prog X.w) X.A (subscriptTail value slice v u) (EP X pins σ Q) X.xe s
def MtR (X:Cx) (id:String) (r:V→List V→Hp→VK→Prop):Prop :=
 ∀(pins:List (Addr×Obj)) (s:Shared) (σ:St) (H:Hp) (x:V) (xs:List V) (v:Value) (us:List Value) (Q:VK),Inv X pins σ H s→RelV x v→Vals xs us→r x xs H Q→
  wpAny (model X.prog X.w) X.A (call (.builtin id) (v::us)) (EP X pins σ Q) X.xe s
section
variable {X:Cx} {a b:Expr} {ta tb:TE} {pos:Pos}
theorem pe_ix {r:R2} (hr:IxR X r) (ha:PE X a ta) (hb:PE X b tb) (hs:PlainIx b):PE X (.Subscript a b pos) (tOp r ta tb):=by
 intro pins s σ H Q I h
 exact Subscript_ (binT ha hb I h λv u s2 x y H2 I2 rx ry q=>hr a b pins s2 σ H2 x y v u Q I2 rx ry q (hs _ _))
def rIxL (K:PySem.W.Frag):R2:=λx y H Q=>∃p xs i v,x=.ref p∧y=.int i∧SqL K H p xs∧atI xs i=some v∧Q v H
def rIxT (K:PySem.W.Frag):R2:=λx y H Q=>∃p xs i v,x=.ref p∧y=.int i∧SqT K H p xs∧atI xs i=some v∧Q v H
theorem zcS:IxR X (rIxL X.K):=by
 intro value slice pins s σ H x y v u Q I rx ry h hs
 obtain⟨p,xs,i,z,rfl,rfl,hq,he,q⟩:=h
 cases rx
 obtain⟨t,rfl⟩:=ry
 obtain⟨its,r,pl,hz⟩:=I.list hq
 obtain⟨j,h1,h2,h3,h4,h5⟩:=zoW he
 obtain⟨w,ew,rw'⟩:=r.get h2
 have hl:=r.length
 have hn:=line63
 have fin:EP X pins σ Q w s:=⟨z,H,I,rw',q⟩
 by_cases h0:0≤i
 ·have hj:i.toNat=j:=by
   rw[seqIndex_of h0 h5] at h1
   exact Option.some.inj h1
  exact item_listR pl.isList h0 (by omega) (by rw[hj];simpa using ew) fin hs
 ·have hj:(i+(its.toArray.size:Int)).toNat=j:=by
   rw[seqIndex_neg (by omega) h4] at h1
   rw[List.size_toArray,←hl]
   exact Option.some.inj h1
  exact subscriptTail_builtinR (x:=w) pl.isList.typeIs slot_list_getitem.lookup
   (wpAny_getItem_list_neg (Q:=λr s'=>r=w∧EP X pins σ Q r s') pl.isList (by omega) (by rw[List.size_toArray]<;>omega) (by omega) (by rw[hj];simpa using ew) ⟨rfl,fin⟩) hs
theorem zms:IxR X (rIxT X.K):=by
 intro value slice pins s σ H x y v u Q I rx ry h hs
 obtain⟨p,xs,i,z,rfl,rfl,hq,he,q⟩:=h
 cases rx
 obtain⟨t,rfl⟩:=ry
 obtain⟨its,r,pl,hz⟩:=I.tuple hq
 obtain⟨j,h1,h2,h3,h4,h5⟩:=zoW he
 obtain⟨w,ew,rw'⟩:=r.get h2
 have hl:=r.length
 have hn:=line63
 have fin:EP X pins σ Q w s:=⟨z,H,I,rw',q⟩
 exact subscriptTail_builtinR (x:=w) pl.typeIs slot_tuple_getitem.lookup
  (getItem_tuple (j:=j) (Q:=λr s'=>r=w∧EP X pins σ Q r s') pl (by omega) (by omega) (by rw[List.size_toArray,←hl];exact h1) (by simpa using ew) ⟨rfl,fin⟩) hs
theorem zkk (lo hi:Option Int) (n:Nat):(sliceBounds lo hi none n).1=((HT.sIx n 0 lo:Nat):Int)∧(sliceBounds lo hi none n).2.1=((HT.sIx n n hi:Nat):Int)∧(sliceBounds lo hi none n).2.2=1:=by
 refine⟨?_,?_,rfl⟩
 ·cases lo with
  | none=>simp[sliceBounds,HT.sIx]
  | some i =>
   simp only[sliceBounds,HT.sIx,Option.getD_none,show (1:Int) > 0 by decide,if_true]
   by_cases h:i < 0
   ·simp only[h,if_true]<;>omega
   ·simp only[h,if_false]<;>omega
 ·cases hi with
  | none=>simp[sliceBounds,HT.sIx]
  | some i =>
   simp only[sliceBounds,HT.sIx,Option.getD_none,show (1:Int) > 0 by decide,if_true]
   by_cases h:i < 0
   ·simp only[h,if_true]<;>omega
   ·simp only[h,if_false]<;>omega
theorem zjn (its:List Value) (lo hi:Option Int):slicePick its.toArray lo hi none=((its.drop (HT.sIx its.length 0 lo)).take (HT.sIx its.length its.length hi - HT.sIx its.length 0 lo)).toArray:=by
 obtain⟨h1,h2,h3⟩:=zkk lo hi its.toArray.size
 unfold slicePick
 rw[h1,h2,h3]
 simp only[sliceRange_one,pick_run,List.size_toArray]<;>rfl
def rSlL (K:PySem.W.Frag):V→Option Int→Option Int→Hp→VK→Prop:=λx lo hi H Q=>∃a xs,x=.ref a∧SqL K H a xs∧∀p,H p=none→Q (.ref p) (upd H p (.lst (cutV xs lo hi)))
theorem zjo:SlR X (rSlL X.K):=by
 intro pins s σ H x v vl vu lo hi sl Q I rx hs pl pu h
 obtain⟨a,xs,rfl,hx,q⟩:=h
 cases rx
 obtain⟨its,r,ht,hz⟩:=I.list hx
 have hlen:=r.length
 refine⟨"list",_,slot_list_getitem.lookup,ht.isList.typeIs,?_⟩
 refine wpAny_getItem_list_slice ht.isList hs pl pu .none (by simp) ?_ (by rw[List.size_toArray]<;>omega)
 rw[zjn,←hlen]
 refine⟨.ref s.heap.objs.size,_,I.laid (t':=s.toks) (o:=.lst (cutV xs lo hi)) (λb ob q=>Heap.get?_push_of_some _ q) (Nat.le_refl _) ?_,rfl,q _ (I.hok.fresh (Nat.le_refl _))⟩
 exact⟨Nat.le_trans (zlY xs lo hi) hz,_,0,(r.drop (HT.sIx xs.length 0 lo)).take (HT.sIx xs.length xs.length hi - HT.sIx xs.length 0 lo),Heap.get?_push_size _ rfl⟩
def flatV:V→Bool
 | .non=>true
 | .bl _=>true
 | .int _=>true
 | .str _=>true
 | _=>false
def eqV:V→V→Bool
 | .non,.non=>true
 | .bl a,.bl b=>a == b
 | .bl a,.int b=>(if a then 1 else 0) == b
 | .int a,.bl b=>a == (if b then 1 else 0)
 | .int a,.int b=>a == b
 | .str a,.str b=>a == b
 | _,_=>false
theorem zr9 {A:Around} {s:Shared} {y x:V} {u v:Value} (ry:RelV y u) (rx:RelV x v) (fy:flatV y=true) (fx:flatV x=true):SeqAt.EqAt A s u v (eqV y x):=by
 cases y with
 | non =>
  cases ry
  cases x with
  | non=>cases rx;exact SeqAt.EqAt.same _
  | bl b=>cases rx;exact SeqAt.EqAt.none_bool b
  | int b=>obtain⟨t,rfl⟩:=rx;exact SeqAt.EqAt.none_int b t
  | str b=>obtain⟨t,rfl⟩:=rx;exact SeqAt.EqAt.none_str b t
  | _=>exact absurd (show false=true from fx) Bool.false_ne_true
 | bl a =>
  cases ry
  cases x with
  | non=>cases rx;exact SeqAt.EqAt.bool_none a
  | bl b=>cases rx;exact SeqAt.EqAt.bool_bool a b
  | int b=>obtain⟨t,rfl⟩:=rx;exact SeqAt.EqAt.bool_int a b t
  | str b=>obtain⟨t,rfl⟩:=rx;exact SeqAt.EqAt.bool_str a b t
  | _=>exact absurd (show false=true from fx) Bool.false_ne_true
 | int a =>
  obtain⟨t',rfl⟩:=ry
  cases x with
  | non=>cases rx;exact SeqAt.EqAt.int_none a t'
  | bl b=>cases rx;exact SeqAt.EqAt.int_bool a t' b
  | int b=>obtain⟨t,rfl⟩:=rx;exact SeqAt.EqAt.int_int a t' b t
  | str b=>obtain⟨t,rfl⟩:=rx;exact SeqAt.EqAt.int_str a t' b t
  | _=>exact absurd (show false=true from fx) Bool.false_ne_true
 | str a =>
  obtain⟨t',rfl⟩:=ry
  cases x with
  | non=>cases rx;exact SeqAt.EqAt.str_none a t'
  | bl b=>cases rx;exact SeqAt.EqAt.str_bool a t' b
  | int b=>obtain⟨t,rfl⟩:=rx;exact SeqAt.EqAt.str_int a t' b t
  | str b=>obtain⟨t,rfl⟩:=rx;exact SeqAt.EqAt.str_str a t' b t
  | _=>exact absurd (show false=true from fx) Bool.false_ne_true
 | _=>exact absurd (show false=true from fy) Bool.false_ne_true
def eqU (x:V) (u:Value):Bool:=match u with
 | .none=>eqV .non x
 | .bool b=>eqV (.bl b) x
 | .int i _=>eqV (.int i) x
 | .str z _=>eqV (.str z) x
 | _=>false
theorem zq1 {x y:V} {u:Value} (r:RelV y u) (f:flatV y=true):eqU x u=eqV y x:=by
 cases y with
 | non=>cases r;rfl
 | bl b=>cases r;rfl
 | int i=>obtain⟨t,rfl⟩:=r;rfl
 | str z=>obtain⟨t,rfl⟩:=r;rfl
 | _=>exact absurd (show false=true from f) Bool.false_ne_true
theorem ziu {x:V}:∀{xs:List V} {us:List Value},Vals xs us→xs.all flatV=true→us.any (eqU x)=xs.any λy=>eqV y x
 | _,_,.nil,_=>rfl
 | y::xs,u::us,.cons r t,f=>by
  rw[List.all_cons,Bool.and_eq_true] at f
  rw[List.any_cons,List.any_cons,zq1 r f.1,ziu t f.2]
theorem zfC {A:Around} {s:Shared} {x:V} {v:Value} (rx:RelV x v) (fx:flatV x=true):∀{xs:List V} {us:List Value},Vals xs us→xs.all flatV=true→∀u∈us,SeqAt.EqAt A s u v (eqU x u)
 | _,_,.nil,_=>λu hu=>by cases hu
 | y::xs,u::us,.cons r t,f=>λu' hu=>by
  rw[List.all_cons,Bool.and_eq_true] at f
  rcases List.mem_cons.mp hu with rfl|hu
  ·rw[zq1 r f.1];exact zr9 r rx f.1 fx
  ·exact zfC rx fx t f.2 u' hu
def inV (x:V) (xs:List V):Bool:=xs.any λy=>eqV y x
def rIn (K:PySem.W.Frag) (neg:Bool):R2:=λx y H Q=>∃p xs,y=.ref p∧(SqL K H p xs∨SqT K H p xs)∧flatV x=true∧xs.all flatV=true∧Q (.bl (if neg then !inV x xs else inV x xs)) H
theorem zky:OpR X (compareOp .In) (rIn X.K false):=by
 intro pins s σ H x y v u Q I rx ry h
 obtain⟨p,xs,rfl,hq,fx,fs,q⟩:=h
 cases ry
 rcases hq with hq|hq
 ·obtain⟨its,r,pl,hz⟩:=I.list hq
  refine SeqAt.in_listAt (eqU x) pl.isList (λw hw=>zfC rx fx r fs w (by simpa using hw)) ⟨.bl _,H,I,rfl,?_⟩
  rw[show its.toArray.any (eqU x)=its.any (eqU x) by simp,ziu r fs]
  exact q
 ·obtain⟨its,r,pl,hz⟩:=I.tuple hq
  refine SeqAt.in_tupleAt (eqU x) pl (λw hw=>zfC rx fx r fs w (by simpa using hw)) ⟨.bl _,H,I,rfl,?_⟩
  rw[show its.toArray.any (eqU x)=its.any (eqU x) by simp,ziu r fs]
  exact q
theorem ze4:OpR X (compareOp .NotIn) (rIn X.K true):=by
 intro pins s σ H x y v u Q I rx ry h
 obtain⟨p,xs,rfl,hq,fx,fs,q⟩:=h
 cases ry
 rcases hq with hq|hq
 ·obtain⟨its,r,pl,hz⟩:=I.list hq
  refine SeqAt.notIn_listAt (eqU x) pl.isList (λw hw=>zfC rx fx r fs w (by simpa using hw)) ⟨.bl _,H,I,rfl,?_⟩
  rw[show its.toArray.any (eqU x)=its.any (eqU x) by simp,ziu r fs]
  exact q
 ·obtain⟨its,r,pl,hz⟩:=I.tuple hq
  refine SeqAt.notIn_tupleAt (eqU x) pl (λw hw=>zfC rx fx r fs w (by simpa using hw)) ⟨.bl _,H,I,rfl,?_⟩
  rw[show its.toArray.any (eqU x)=its.any (eqU x) by simp,ziu r fs]
  exact q
theorem zaa:CallR X (.builtin "len") (λxs H Q=>∃p ys,xs=[.ref p]∧(SqL X.K H p ys∨SqT X.K H p ys)∧Q (.int ys.length) H):=by
 intro pins s σ H xs us Q I r h
 obtain⟨p,ys,rfl,hq,q⟩:=h
 obtain⟨u,rfl,rx⟩:=vals1 r
 cases rx
 have hn:=line63
 rcases hq with hq|hq
 ·obtain⟨its,r',pl,hz⟩:=I.list hq
  have hlen:=r'.length
  exact Calls.call_len_list pl.isList (by simp only[List.size_toArray]<;>omega) ⟨.int ys.length,H,I.tok _,⟨s.toks+1,by rw[List.size_toArray,hlen]⟩,q⟩
 ·obtain⟨its,r',pl,hz⟩:=I.tuple hq
  have hlen:=r'.length
  exact len_tuple pl (by simp only[List.size_toArray]<;>omega) ⟨.int ys.length,H,I.tok _,⟨s.toks+1,by rw[List.size_toArray,hlen]⟩,q⟩
def tyV (K:PySem.W.Frag) (T:String) (x:V) (H:Hp):Prop:=match x with
 | .str _=>T="str"
 | .int _=>T="int"
 | .ref p=>(T="list"∧∃xs,SqL K H p xs)∨(T="tuple"∧∃o,K.lookup p=some o∧o.cls=.type "tuple"∧o.dict=none)∨
   (T="dict"∧((∃kvs,H p=some (.dK kvs))∨∃kvs,H p=some (.dT kvs)))∨(T="set"∧∃S n,H p=some (.set S n))
 | _=>False
theorem zqO {pins:List (Addr×Obj)} {σ:St} {H:Hp} {s:Shared} {T:String} {x:V} {v:Value} (I:Inv X pins σ H s) (r:RelV x v) (ty:tyV X.K T x H) :
  s.TypeIs v T∧∀a,v=.ref a→∃ob,s.heap.get? a=some ob∧ob.dict=none:=by
 cases x with
 | str z =>
  obtain⟨t,rfl⟩:=r
  cases (show T="str" from ty)
  exact⟨typeIs_str s z t,λ_ e=>nomatch e⟩
 | int i =>
  obtain⟨t,rfl⟩:=r
  cases (show T="int" from ty)
  exact⟨typeIs_int s i t,λ_ e=>nomatch e⟩
 | ref p =>
  cases r
  rcases ty with ⟨rfl,xs,hq⟩|⟨rfl,o,hk,hc,hd⟩|⟨rfl,hk⟩|⟨rfl,S,n,hk⟩
  ·obtain⟨its,_,pl,_⟩:=I.list hq
   refine⟨pl.isList.typeIs,λa e=>?_⟩
   cases e
   obtain⟨o,n,e,c,hd,_⟩:=pl
   exact⟨o,e,hd⟩
  ·refine⟨⟨o,I.kIn p o hk,hc⟩,λa e=>?_⟩
   cases e
   exact⟨o,I.kIn _ o hk,hd⟩
  ·have z:∃o,s.heap.get? p=some o∧o.ExactDict:=by
    rcases hk with ⟨kvs,hk⟩|⟨kvs,hk⟩
    ·obtain⟨_,_,_,_,o,_,_,e,ex,_⟩:=I.hok p _ hk
     exact⟨o,e,ex⟩
    ·obtain⟨_,_,_,_,o,_,_,e,ex,_⟩:=I.hok p _ hk
     exact⟨o,e,ex⟩
   obtain⟨o,e,ex⟩:=z
   refine⟨⟨o,e,ex.1⟩,λa e2=>?_⟩
   cases e2
   exact⟨o,e,ex.2.1⟩
  ·obtain⟨o,_,_,_,e,ex,_⟩:=I.hok p _ hk
   refine⟨⟨o,e,ex.1⟩,λa e2=>?_⟩
   cases e2
   exact⟨o,e,ex.2.1⟩
 | _=>exact False.elim ty
def tBM (K:PySem.W.Frag) (T:String) (r:V→List V→Hp→VK→Prop) (to:TE) (t:TA):TE:=λσ H Q=>to σ H λx H1=>tyV K T x H1∧t σ H1 λxs H2=>r x xs H2 Q
variable {o e:Expr} {es:List Expr} {to:TE} {t:TA} {name:Str} {apos cpos:Pos} {T id:String} {r:V→List V→Hp→VK→Prop}
theorem pe_bm (pa:PlainAttrs T) (slot:Slot T name id) (hty:typeOf (.builtin id)=pure (.type "method_descriptor")) (hm:MtR X id r) (ho:PE X o to) (ha:PA X (e::es) t)
  (hbase:attributeBase o name X.env (eval o X.env)=eval o X.env:=by rfl)
  (hfew:((backTo cpos (starEach (e::es) X.env)).all (λx=>!x.1) && (backToKw cpos (keywordEach [] X.env)).all (λx=>x.1.isSome)
   && decide ((e::es).length+([]:List Keyword).length+(if ([]:List Keyword).isEmpty then 0 else 1) < 30))=true:=by rfl)
  (hline:(apos.endLine == cpos.line)=true:=by rfl) (hs:starEach (e::es) X.env=(false,eval e X.env)::starEach es X.env:=by rfl) (hplain:(backTo cpos (starEach es X.env)).any (·.1)=false:=by rfl) :
  PE X (.Call (.Attribute o name apos) (e::es) [] cpos) (tBM X.K T r to t):=by
 intro pins s σ H Q I h
 refine wpAny_Call_method_late hbase hfew hline rfl (thn (ho pins s σ H _ I h) λv s1 ⟨x,H1,I1,r1,ty,q1⟩=>?_)
 obtain⟨h1,h2⟩:=zqO I1 r1 ty
 refine⟨T,id,pa,slot,hty,h1,h2,?_⟩
 have hA:=ha cpos pins s1 σ H1 _ I1 q1
 rw[hs] at hA ⊢
 refine Calls.callWith_builtin (by show (false || (backTo cpos (starEach es X.env)).any (·.1))=false;rw[hplain]<;>rfl) (Calls.evalArgs_plain ?_)
 exact thn hA λus s2 ⟨vs,H2,I2,r2,q2⟩=>hm pins s2 σ H2 x vs v us Q I2 r1 r2 q2
/- xs.append(e),list.index on a module's tuple .. are MtR facts of 06m -/
end
end L2
namespace L2
open PySem PySem.Spec PyProof.Rows
def MtM (X:Cx) (id:String) (r:V→List V→Hp→VK→Prop):Prop :=
 ∀(pins:List (Addr×Obj)) (s:Shared) (σ:St) (H:Hp) (x:V) (xs:List V) (v:Value) (us:List Value) (Q:VK),Inv X pins σ H s→RelV x v→Vals xs us→r x xs H Q→
  wpAny (model X.prog X.w) X.A (call (.builtin id) (v::us)) (EP X pins σ Q) X.xe s
theorem Vals.one:∀{x:V} {us:List Value},Vals [x] us→∃u,us=[u]∧RelV x u
 | _,_,.cons r .nil=>⟨_,rfl,r⟩
theorem Vals.eraseIdx:∀{xs:List V} {us:List Value} (i:Nat),Vals xs us→Vals (xs.eraseIdx i) (us.eraseIdx i)
 | _,_,_,.nil=>.nil
 | _,_,0,.cons _ t=>t
 | _,_,i+1,.cons r t=>.cons r (Vals.eraseIdx i t)
theorem Vals.rep {xs:List V} {us:List Value} (h:Vals xs us):∀k:Nat,Vals (List.replicate k xs).flatten (List.replicate k us).flatten
 | 0=>.nil
 | k+1=>by
  rw[List.replicate_succ,List.replicate_succ,List.flatten_cons,List.flatten_cons]
  exact Vals.append h (Vals.rep h k)
theorem zkP {α:Type}:∀(l:List α) (i:Nat),(l.eraseIdx i).length≤l.length
 | [],_=>Nat.le_refl _
 | _::_,0=>Nat.le_succ _
 | _::r,i+1=>Nat.succ_le_succ (zkP r i)
theorem foldl_rep (its:List Value):∀(k:Nat) (acc:List Value),
  List.foldl (λx1 x2=>x1++x2) acc.toArray (List.replicate k its.toArray)=(acc++(List.replicate k its).flatten).toArray
 | 0,acc=>by simp
 | k+1,acc=>by
  have e:acc.toArray++its.toArray=(acc++its).toArray:=by simp
  have e2:(acc++its)++(List.replicate k its).flatten=acc++(List.replicate (k+1) its).flatten:=by
   rw[List.replicate_succ,List.flatten_cons,List.append_assoc]
  rw[←e2,←foldl_rep its k (acc++its),←e,List.replicate_succ,List.foldl_cons]
section
variable {X:Cx} {pins:List (Addr×Obj)} {σ:St} {H:Hp} {s:Shared} {l b:Addr} {xs ys zs:List V}
theorem Inv.lset {its its':List Value} {n:Nat} {f:Array Value→Array Value} {t':Nat} (I:Inv X pins σ H s) (hH:H l=some (.lst xs))
  (e:s.heap.get? l=some { cls:=.type "list",data:=.seq its.toArray n }) (hf:f its.toArray=its'.toArray) (hv:Vals ys its') (hz:ys.length≤sizeLine) :
  Inv X pins σ (upd H l (.lst ys)) { s with heap:=s.heap.update l (Obj.mapSeq f),toks:=t' }:=by
 have q:=PySem.IsL.update e f
 rw[hf] at q
 refine I.write (x:=l) (e:=l) (by rw[hH];exact trivial) (.inl rfl) (λb' u hb hu=>(Heap.get?_update_other s.heap (Obj.mapSeq f) (Ne.symm hb)).trans hu) ⟨_,q⟩ ?_
 exact⟨hz,its',_,hv,q⟩
theorem Inv.lnew {its:List Value} {t':Nat} (I:Inv X pins σ H s) (hv:Vals ys its) (hz:ys.length≤sizeLine) :
  Inv X pins σ (upd H s.heap.objs.size (.lst ys)) { s with heap:=s.heap.push { cls:=.type "list",data:=.seq its.toArray },toks:=t' } :=
 I.laid (λ_ _ q=>Heap.get?_push_of_some _ q) (Nat.le_refl _) ⟨hz,its,0,hv,Heap.get?_push_size _ rfl⟩
theorem Inv.fresh (I:Inv X pins σ H s):H s.heap.objs.size=none:=I.hok.fresh (Nat.le_refl _)
theorem Inv.lstM (I:Inv X pins σ H s) (hH:H l=some (.lst xs)):xs.length≤sizeLine∧∃(its:List Value) (n:Nat),Vals xs its∧xs.length=its.length∧s.heap.get? l=some { cls:=.type "list",data:=.seq its.toArray n }:=by
 obtain⟨z,its,n,r,e⟩:=I.hok l _ hH
 exact⟨z,its,n,r,r.length,e⟩
theorem notLongL {n:Nat} (h:n≤sizeLine):Builtin.List.listTooLong n=false:=by
 unfold Builtin.List.listTooLong
 exact decide_eq_false (by omega)
end
section
variable {X:Cx}
def rAppend:V→List V→Hp→VK→Prop:=λx vs H Q=>∃l xs y,x=.ref l∧vs=[y]∧H l=some (.lst xs)∧xs.length < sizeLine∧Q .non (upd H l (.lst (xs++[y])))
theorem zcn:MtM X "list.append" rAppend:=by
 intro pins s σ H x vs v us Q I rx rv h
 obtain⟨l,xs,y,rfl,rfl,hH,hz,q⟩:=h
 cases rx
 obtain⟨u,rfl,ru⟩:=rv.one
 obtain⟨z,its,n,r,hl,e⟩:=I.lstM hH
 refine call_meets F.slot_list_append ⟨_,e,rfl⟩ F.entry_list_append (F.args_list_append_2 _ _) (PySem.list_append l its.toArray n u (by rw[List.size_toArray];omega)) ⟨e,?_⟩
 refine⟨.non,_,I.lset (its':=its++[u]) hH e (by simp) (r.append (.cons ru .nil)) ?_,rfl,q⟩
 rw[List.length_append,List.length_singleton]
 omega
def rExtend:V→List V→Hp→VK→Prop:=λx vs H Q=>∃l b xs zs,x=.ref l∧vs=[.ref b]∧H l=some (.lst xs)∧H b=some (.lst zs)∧xs.length+zs.length≤sizeLine∧Q .non (upd H l (.lst (xs++zs)))
theorem zhL:MtM X "list.extend" rExtend:=by
 intro pins s σ H x vs v us Q I rx rv h
 obtain⟨l,b,xs,zs,rfl,rfl,hH,hB,hz,q⟩:=h
 cases rx
 obtain⟨u,rfl,ru⟩:=rv.one
 cases ru
 obtain⟨z,its,n,r,hl,e⟩:=I.lstM hH
 obtain⟨z2,its2,n2,r2,hl2,e2⟩:=I.lstM hB
 have hsz:its.toArray.size+its2.toArray.size≤sizeLine:=by rw[List.size_toArray,List.size_toArray];omega
 have hlong:¬ (!its.toArray.isEmpty && Builtin.List.listTooLong (its.toArray.size+its2.toArray.size))=true:=by
  rw[notLongL hsz,Bool.and_false]
  exact Bool.false_ne_true
 refine call_meets F.slot_list_extend ⟨_,e,rfl⟩ F.entry_list_extend (F.args_list_extend_2 _ _)
  (AutoSeq1.list_extend_list_list_0 l its.toArray n b its2.toArray n2 hlong (by rw[List.size_toArray];omega) (by omega)) ⟨e,e2,?_⟩
 refine⟨.non,_,I.lset (its':=its++its2) hH e (by simp) (r.append r2) ?_,rfl,q⟩
 rw[List.length_append]
 omega
def rPopAt:V→List V→Hp→VK→Prop:=λx vs H Q=>∃l xs i k y,x=.ref l∧vs=[.int i]∧H l=some (.lst xs)∧-(2 ^ 63)≤i∧i < 2 ^ 63∧seqIndex? i xs.length=some k∧xs[k]?=some y∧Q y (upd H l (.lst (xs.eraseIdx k)))
theorem zpv:MtM X "list.pop" rPopAt:=by
 intro pins s σ H x vs v us Q I rx rv h
 obtain⟨l,xs,i,k,y,rfl,rfl,hH,h1,h2,hk,hy,q⟩:=h
 cases rx
 obtain⟨u,rfl,ru⟩:=rv.one
 obtain⟨t,rfl⟩:=ru
 obtain⟨z,its,n,r,hl,e⟩:=I.lstM hH
 obtain⟨w,hw,rw'⟩:=r.get hy
 refine call_meets F.slot_list_pop ⟨_,e,rfl⟩ F.entry_list_pop (F.args_list_pop_2 _ _)
  (MeetsSeq.list_pop_at l its.toArray n i t k w (fitsIndex_both h1 h2) (by rw[List.size_toArray,←hl];exact hk) (by rw[←Array.getElem?_toList];exact hw) (by rw[List.size_toArray];omega)) ⟨e,?_⟩
 refine⟨y,_,I.lset (its':=its.eraseIdx k) hH e ?_ (r.eraseIdx k) ?_,rw',q⟩
 ·show its.toArray.eraseIdxIfInBounds k=(its.eraseIdx k).toArray
  rw[List.eraseIdxIfInBounds_toArray]
 ·have:=zkP xs k
  omega
def rCat:R2:=λx y H Q=>∃l b xs zs,x=.ref l∧y=.ref b∧H l=some (.lst xs)∧H b=some (.lst zs)∧xs.length+zs.length≤sizeLine∧∀p,H p=none→Q (.ref p) (upd H p (.lst (xs++zs)))
theorem zcQ:OpR X (binaryOp .Add) rCat:=by
 intro pins s σ H x y v u Q I rx ry h
 obtain⟨l,b,xs,zs,rfl,rfl,hH,hB,hz,q⟩:=h
 cases rx
 cases ry
 obtain⟨z,its,n,r,hl,e⟩:=I.lstM hH
 obtain⟨z2,its2,n2,r2,hl2,e2⟩:=I.lstM hB
 refine PySem.P.add_list e e2 ?_ (by rw[List.size_toArray,List.size_toArray];omega)
 have ea:its.toArray++its2.toArray=(its++its2).toArray:=by simp
 rw[ea]
 exact⟨.ref _,_,I.lnew (t':=s.toks) (r.append r2) (by rw[List.length_append];omega),rfl,q _ I.fresh⟩
def rRep:R2:=λx y H Q=>∃l k xs,x=.ref l∧y=.int k∧H l=some (.lst xs)∧-(2 ^ 63)≤k∧k < 2 ^ 63∧xs.length * k.toNat≤sizeLine∧
 ∀p,H p=none→Q (.ref p) (upd H p (.lst (List.replicate k.toNat xs).flatten))
theorem len_rep {α:Type} (xs:List α) (k:Nat):(List.replicate k xs).flatten.length=k * xs.length:=by
 induction k with
 | zero=>simp
 | succ k ih=>rw[List.replicate_succ,List.flatten_cons,List.length_append,ih,Nat.succ_mul,Nat.add_comm]
theorem zr2:OpR X (binaryOp .Mult) rRep:=by
 intro pins s σ H x y v u Q I rx ry h
 obtain⟨l,k,xs,rfl,rfl,hH,h1,h2,hz,q⟩:=h
 cases rx
 obtain⟨t,rfl⟩:=ry
 obtain⟨z,its,n,r,hl,e⟩:=I.lstM hH
 have hlen:its.toArray.size * k.toNat≤sizeLine:=by rw[List.size_toArray,←hl];exact hz
 have hcap:¬ its.toArray.size * k.toNat > (2 ^ 63 - 1) / 8:=by
  have:(sizeLine:Nat)≤(2 ^ 63 - 1) / 8:=by decide
  omega
 have hfit:¬ (!Builtin.List.listFitsIndex k)=true:=by
  rw[fitsIndex_both h1 h2]
  exact Bool.false_ne_true
 have hlong:¬ Builtin.List.listTooLong (its.toArray.size * k.toNat)=true:=by
  rw[notLongL hlen]
  exact Bool.false_ne_true
 have hnew:List.foldl (λx1 x2=>x1++x2) #[] (List.replicate (if its.toArray.isEmpty=true then 0 else k.toNat) its.toArray)=(List.replicate k.toNat its).flatten.toArray:=by
  have f0:∀m:Nat,List.foldl (λx1 x2=>x1++x2) #[] (List.replicate m its.toArray)=(List.replicate m its).flatten.toArray:=λm=>by
   have:=foldl_rep its m []
   rw[List.nil_append] at this
   exact this
  rw[f0]
  cases its with
  | nil=>simp
  | cons a r'=>rw[if_neg (by simp)]
 refine wpAny_binaryOp_repeat_ref (T:="list") (U:="int") (by decide) ⟨_,e,rfl⟩ (λs'=>typeIs_int s' k t) noFill_list_mul F.fills_int_mul F.slot_int_rmul repeat_list F.slot_int_index.lookup
  (call_meets F.slot_int_rmul (typeIs_int s k t) F.entry_int_rmul (F.args_int_rmul_2 _ _) (int___rmul___int_list k t l its.toArray n)
   ⟨e,rfl,⟨_,e,rfl⟩,call_meets F.slot_list_mul ⟨_,e,rfl⟩ F.entry_list_mul (F.args_list_mul_2 _ _) (AutoListH.list___mul___list_int_3 l its.toArray n k t hfit hcap hlong) ⟨e,?_⟩⟩)
 rw[hnew]
 exact⟨.ref _,_,I.lnew (t':=s.toks) (r.rep k.toNat) (by rw[len_rep,Nat.mul_comm];exact hz),rfl,q _ I.fresh⟩
end
section
variable {prog:Program} {w:World} {A:Around} {E:Value→Shared→Prop} {s:Shared}
set_option maxRecDepth 100000 in
end
section
variable {X:Cx}
end
end L2
namespace L2
open PySem PySem.Spec PyProof.Rows
section
variable {prog:Program} {w:World} {A:Around} {E:Value→Shared→Prop} {s:Shared} {l:Addr} {its:List Value} {ns:List Int} {Q:Value→Shared→Prop}
end
section
variable {X:Cx}
end
section
variable {X:Cx}
end
section
variable {X:Cx}
end
section
variable {X:Cx}
end
mutual
inductive Dp (K:PySem.W.Frag) (H:Hp):V→PyData→Prop
 | non:Dp K H .non .none
 | bl (b:Bool):Dp K H (.bl b) (.bool b)
 | int (i:Int):Dp K H (.int i) (.int i)
 | str (x:Str):Dp K H (.str x) (.str x)
 | lst {a:Addr} {xs:List V} {ds:List PyData}:SqL K H a xs→DpAll K H xs ds→Dp K H (.ref a) (.list ds)
 | tup {a:Addr} {xs:List V} {ds:List PyData}:SqT K H a xs→DpAll K H xs ds→Dp K H (.ref a) (.tuple ds)
inductive DpAll (K:PySem.W.Frag) (H:Hp):List V→List PyData→Prop
 | nil:DpAll K H [] []
 | cons {v:V} {vs:List V} {d:PyData} {ds:List PyData}:Dp K H v d→DpAll K H vs ds→DpAll K H (v::vs) (d::ds)
end
section
variable {X:Cx} {pins:List (Addr×Obj)} {σ:St} {H:Hp} {s:Shared}
mutual
theorem Dp.reads (I:Inv X pins σ H s):∀(d:PyData) (v:V) (u:Value),Dp X.K H v d→RelV v u→∃as,Reads s.heap u d as
 | .none,_,_,h,r=>by
  cases h
  cases r
  exact⟨_,Reads.none⟩
 | .bool b,_,_,h,r=>by
  cases h
  cases r
  exact⟨_,Reads.bool b⟩
 | .int i,_,_,h,r=>by
  cases h
  obtain⟨t,rfl⟩:=r
  exact⟨_,Reads.int i t⟩
 | .str x,_,_,h,r=>by
  cases h
  obtain⟨t,rfl⟩:=r
  exact⟨_,Reads.str x t⟩
 | .list ds,_,_,h,r=>by
  cases h with
  | lst hs ha =>
   cases r
   obtain⟨its,rv,⟨o,n,ho,hc,_,hd⟩,_⟩:=I.list hs
   obtain⟨as,hr⟩:=Dp.readsAll I ds _ its ha rv
   exact⟨_,Reads.list ho hc hd hr⟩
 | .tuple ds,_,_,h,r=>by
  cases h with
  | tup hs ha =>
   cases r
   obtain⟨its,rv,⟨o,ho,hc,n,hd⟩,_⟩:=I.tuple hs
   obtain⟨as,hr⟩:=Dp.readsAll I ds _ its ha rv
   exact⟨_,Reads.tuple ho hc hd hr⟩
 | .dict _,_,_,h,_=>by cases h
theorem Dp.readsAll (I:Inv X pins σ H s):∀(ds:List PyData) (vs:List V) (us:List Value),DpAll X.K H vs ds→Vals vs us→∃as,ReadsAll s.heap us ds as
 | [],_,_,h,r=>by
  cases h
  cases r
  exact⟨_,ReadsAll.nil⟩
 | d::ds,_,_,h,r=>by
  cases h with
  | cons h1 h2 =>
   cases r with
   | cons r1 r2 =>
    obtain⟨as,q1⟩:=Dp.reads I d _ _ h1 r1
    obtain⟨bs,q2⟩:=Dp.readsAll I ds _ _ h2 r2
    exact⟨_,ReadsAll.cons q1 q2⟩
end
end
section
variable {X:Cx}
def rNeD (K:PySem.W.Frag):R2:=λx y H Q=>∃d e,Dp K H x d∧Dp K H y e∧SeqAt.shaped d=true∧SeqAt.shaped e=true∧Q (.bl (!PyData.eqv d e)) H
theorem zr3 (hu:X.A.units+64 < cLine):OpR X (compareOp .NotEq) (rNeD X.K):=by
 intro pins s σ H x y v u Q I rx ry h
 obtain⟨d,e,hd,he,sd,se,q⟩:=h
 obtain⟨as,r1⟩:=Dp.reads I d x v hd rx
 obtain⟨bs,r2⟩:=Dp.reads I e y u he ry
 exact SeqAt.compareNe_shaped r1 r2 sd se hu ⟨.bl _,H,I,rfl,q⟩
end
end L2
namespace L2
open PySem PySem.Spec PyProof.Rows
abbrev CellAt (h:Heap) (c:Addr) (v:Option Value):Prop:=h.IsCell c v
def relS (scope sc:Scope):Scope :=
 { scope with names:=scope.names.map λ(n,k)=>if (k == .free && sc.kind == .function && sc.names.lookup n == some .cell) then (n,.cell) else (n,k) }
def cloFrom (cells:List (Str×Addr)):List (Str×NameKind)→List (Str×Addr)→List (Str×Addr)
 | [],acc=>acc
 | (n,k)::r,acc=>if k == .free then cloFrom cells r ((n,(cells.lookup n).getD 0)::acc) else cloFrom cells r acc
theorem zgP (env:Env) (f:Str×NameKind→List (Str×Addr)→Sem (ForInStep (List (Str×Addr))))
  (hf:∀n k c,f (n,k) c=if k == .free then (do let a ←cellOf env n;pure (.yield ((n,a)::c))) else pure (.yield c)) :
  ∀(names:List (Str×NameKind)) (acc:List (Str×Addr)),(∀y∈names,y.2=.free→∃c,env.cells.lookup y.1=some c)→forIn names acc f=pure (cloFrom env.cells names acc)
 | [],acc,_=>by rw[List.forIn_nil];rfl
 | (n,k)::r,acc,h=>by
  rw[List.forIn_cons,hf]
  have ih:=λacc=>zgP env f hf r acc λy hy=>h y (List.mem_cons_of_mem _ hy)
  unfold cloFrom
  by_cases hk:(k == NameKind.free)=true
  ·rw[if_pos hk,if_pos hk]
   obtain⟨c,hc⟩:=h (n,k) List.mem_cons_self (by simpa using hk)
   have e:cellOf env n=pure c:=by unfold cellOf;rw[hc]
   rw[e]
   have e2:(env.cells.lookup n).getD 0=c:=by rw[hc];rfl
   rw[e2]
   exact ih _
  ·rw[if_neg hk,if_neg hk]
   exact ih _
theorem znh {scope:Scope} {env:Env} (h:∀y∈scope.names,y.2=.free→∃c,env.cells.lookup y.1=some c):closureFor scope env=pure (cloFrom env.cells scope.names []):=by
 simp only[closureFor]
 rw[zgP env _ (λn k c=>rfl) scope.names [] h]
 rfl
theorem mem_lookup {α:Type}:∀{l:List (Str×α)} {n:Str} {c:α},(n,c)∈l→∃c',l.lookup n=some c'
 | (k,v)::r,n,c,h=>by
  rw[List.lookup_cons]
  cases hb:n == k with
  | true=>exact⟨_,rfl⟩
  | false =>
   rcases List.mem_cons.mp h with e|h
   ·cases e;simp at hb
   ·exact mem_lookup h
theorem zdM {cells:List (Str×Addr)}:∀{names:List (Str×NameKind)} {acc:List (Str×Addr)} {n:Str} {c:Addr},(n,c)∈cloFrom cells names acc→(n,c)∈acc∨((n,.free)∈names∧c=(cells.lookup n).getD 0)
 | [],_,_,_,h=>.inl h
 | (m,k)::r,acc,n,c,h=>by
  unfold cloFrom at h
  split at h
  ·rename_i hk
   have hk:k=.free:=by simpa using hk
   rcases zdM h with h|⟨h1,h2⟩
   ·rcases List.mem_cons.mp h with e|h
    ·cases e;exact .inr ⟨hk ▸ List.mem_cons_self,rfl⟩
    ·exact .inl h
   ·exact .inr ⟨List.mem_cons_of_mem _ h1,h2⟩
  ·rcases zdM h with h|⟨h1,h2⟩
   ·exact .inl h
   ·exact .inr ⟨List.mem_cons_of_mem _ h1,h2⟩
theorem zf8 {cells:List (Str×Addr)}:∀{names:List (Str×NameKind)} {acc:List (Str×Addr)} {p:Str×Addr},p∈acc→p∈cloFrom cells names acc
 | [],_,_,h=>h
 | (m,k)::r,acc,p,h=>by
  unfold cloFrom
  split
  ·exact zf8 (List.mem_cons_of_mem _ h)
  ·exact zf8 h
theorem zf7 {cells:List (Str×Addr)}:∀{names:List (Str×NameKind)} {acc:List (Str×Addr)} {n:Str},(n,.free)∈names→(n,(cells.lookup n).getD 0)∈cloFrom cells names acc
 | (m,k)::r,acc,n,h=>by
  unfold cloFrom
  rcases List.mem_cons.mp h with e|h
  ·cases e
   exact zf8 List.mem_cons_self
  ·split
   ·exact zf7 h
   ·exact zf7 h
theorem zec:∀{names:List (Str×NameKind)} {h:Heap} {acc:List (Str×Addr)} {x:Str} {c:Addr},(x,c)∈cellsFrom h.objs.size names acc→
  (x,c)∈acc∨((x,.cell)∈names∧h.objs.size≤c∧CellAt (pushCells h names) c none)
 | [],_,_,_,_,h=>.inl h
 | (n,k)::r,h,acc,x,c,hm=>by
  unfold cellsFrom at hm
  unfold pushCells
  split at hm
  ·rename_i hk
   rw[if_pos hk]
   have hk:k=.cell:=by simpa using hk
   rw[←Heap.size_push h { cls:=.type "cell",data:=.cell none }] at hm
   rcases zec hm with hm|⟨h1,h2,h3⟩
   ·rcases List.mem_cons.mp hm with e|hm
    ·cases e
     exact .inr ⟨hk ▸ List.mem_cons_self,Nat.le_refl _,_,pushCells_keeps r _ _ _ (Heap.get?_push_size _ rfl),rfl⟩
    ·exact .inl hm
   ·rw[Heap.size_push] at h2
    exact .inr ⟨List.mem_cons_of_mem _ h1,Nat.le_of_succ_le h2,h3⟩
  ·rename_i hk
   rw[if_neg hk]
   rcases zec hm with hm|⟨h1,h2,h3⟩
   ·exact .inl hm
   ·exact .inr ⟨List.mem_cons_of_mem _ h1,h2,h3⟩
theorem zfI:∀{names:List (Str×NameKind)} {n:Nat} {acc:List (Str×Addr)} {p:Str×Addr},p∈acc→p∈cellsFrom n names acc
 | [],_,_,_,h=>h
 | (m,k)::r,n,acc,p,h=>by
  unfold cellsFrom
  split
  ·exact zfI (List.mem_cons_of_mem _ h)
  ·exact zfI h
theorem zif:∀{names:List (Str×NameKind)} {n:Nat} {acc:List (Str×Addr)} {x:Str},(x,.cell)∈names→∃c,(x,c)∈cellsFrom n names acc
 | (m,k)::r,n,acc,x,h=>by
  unfold cellsFrom
  rcases List.mem_cons.mp h with e|h
  ·cases e
   exact⟨n,zfI List.mem_cons_self⟩
  ·split
   ·exact zif h
   ·exact zif h
theorem zie:∀{names:List (Str×NameKind)} {h:Heap} {acc:List (Str×Addr)} {x y:Str} {c:Addr},(∀p∈acc,p.2 < h.objs.size)→(∀x y c,(x,c)∈acc→(y,c)∈acc→x=y)→
  (x,c)∈cellsFrom h.objs.size names acc→(y,c)∈cellsFrom h.objs.size names acc→x=y
 | [],_,_,_,_,_,_,hi,h1,h2=>hi _ _ _ h1 h2
 | (n,k)::r,h,acc,x,y,c,hl,hi,h1,h2=>by
  unfold cellsFrom at h1 h2
  split at h1
  ·rename_i hk
   rw[if_pos hk] at h2
   rw[←Heap.size_push h { cls:=.type "cell",data:=.cell none }] at h1 h2
   refine zie (h:=h.push _) (λp hp=>?_) (λx y c a b=>?_) h1 h2
   ·rw[Heap.size_push]
    rcases List.mem_cons.mp hp with rfl|hp
    ·exact Nat.lt_succ_self _
    ·exact Nat.lt_succ_of_lt (hl p hp)
   ·rcases List.mem_cons.mp a with e|a<;>rcases List.mem_cons.mp b with e'|b
    ·cases e;cases e';rfl
    ·cases e;exact absurd (hl _ b) (Nat.lt_irrefl _)
    ·cases e';exact absurd (hl _ a) (Nat.lt_irrefl _)
    ·exact hi _ _ _ a b
  ·rename_i hk
   rw[if_neg hk] at h2
   exact zie hl hi h1 h2
theorem zlD {M:Model} {A:Around} {E:Value→Shared→Prop} {s:Shared} {scope:Scope} {globals:Addr} {closure:List (Str×Addr)} {qual:Str} {func:Option Addr} {code:Value} {around:Env} {builtins:Addr} {Q:Env→Shared→Prop}
  (h:Q (newEnv scope s.heap.objs.size globals (cellsFrom (s.heap.objs.size+1) scope.names closure) qual func code (some around) builtins)
   { s with heap:=pushCells (s.heap.push { cls:=.type "dict",data:=.dict #[] }) scope.names }) :
  wpAny M A (newFunctionEnv scope globals closure [] qual func code (some around) builtins) Q E s:=by
 simp only[newFunctionEnv,Option.isSome_some,if_true]
 refine wpAny_bind (wpAny_alloc ?_)
 refine wpAny_bind (wpAny_layCells _ (λn k c=>rfl) scope.names closure _ _ ?_)
 rw[show ({ s with heap:=s.heap.push { cls:=.type "dict",data:=.dict #[] } }:Shared).heap.objs.size=s.heap.objs.size+1 from Heap.size_push ..]
 rw[List.forIn_nil]
 exact wpAny_bind (wpAny_pure (wpAny_pure h))
theorem zeU {sc:Scope}:∀{names:List (Str×NameKind)} {x:Str} {k:NameKind},
  (names.map λ(n,k)=>if (k == NameKind.free && sc.kind == .function && sc.names.lookup n == some .cell) then (n,NameKind.cell) else (n,k)).lookup x=some k→
  ∃k',names.lookup x=some k'∧(k=k'∨(k'=.free∧k=.cell))
 | [],_,_,h=>by simp at h
 | (n,k₀)::r,x,k,h=>by
  have ih:=@zeU sc r x k
  have h':List.lookup x ((if (k₀ == NameKind.free && sc.kind == .function && sc.names.lookup n == some .cell)=true then (n,NameKind.cell) else (n,k₀))::(r.map _))=some k:=h
  cases hx:x == n with
  | true =>
   simp only[List.lookup_cons,hx]
   by_cases hc:(k₀ == NameKind.free && sc.kind == .function && sc.names.lookup n == some .cell)=true
   ·rw[if_pos hc] at h'
    simp only[List.lookup_cons,hx] at h'
    cases h'
    simp only[Bool.and_eq_true,beq_iff_eq] at hc
    exact⟨k₀,rfl,.inr ⟨hc.1.1,rfl⟩⟩
   ·rw[if_neg hc] at h'
    simp only[List.lookup_cons,hx] at h'
    cases h'
    exact⟨_,rfl,.inl rfl⟩
  | false =>
   simp only[List.lookup_cons,hx]
   by_cases hc:(k₀ == NameKind.free && sc.kind == .function && sc.names.lookup n == some .cell)=true
   ·rw[if_pos hc] at h'
    simp only[List.lookup_cons,hx] at h'
    exact ih h'
   ·rw[if_neg hc] at h'
    simp only[List.lookup_cons,hx] at h'
    exact ih h'
structure BlkOk (N:List Str) (sc scope:Scope) (own:List (Str×Nat)):Prop where
 kind:scope.kind=.function
 uniq:∀y∈scope.names,scope.names.lookup y.1=some y.2
 ix:∀p∈own,N[p.2]?=some p.1
 free:∀y∈scope.names,y.2=.free→sc.names.lookup y.1=some .cell∨sc.names.lookup y.1=some .free
 own:∀y∈scope.names,y.2=.local∨y.2=.cell→y.1∈own.map (·.1)∨y.1∉N
def wipe (σ:St):List Nat→St
 | []=>σ
 | v::vs=>(wipe σ vs).set v none
theorem zeI (σ:St):∀vs:List Nat,(wipe σ vs).length=σ.length
 | []=>rfl
 | v::vs=>by unfold wipe;rw[List.length_set,zeI σ vs]
theorem zhh {σ:St} {i:Nat} {x:V}:∀{vs:List Nat},(wipe σ vs)[i]?=some (some x)→σ[i]?=some (some x)∧i∉vs
 | [],h=>⟨h,by simp⟩
 | v::vs,h=>by
  unfold wipe at h
  by_cases hi:v=i
  ·subst hi
   by_cases hv:v < (wipe σ vs).length
   ·rw[List.getElem?_set_self hv] at h;cases h
   ·rw[List.getElem?_eq_none (by simpa using hv)] at h;cases h
  ·rw[List.getElem?_set_ne hi] at h
   obtain⟨h1,h2⟩:=zhh h
   exact⟨h1,by simp only[List.mem_cons,not_or];exact⟨λe=>hi e.symm,h2⟩⟩
abbrev Cx.blk (X:Cx) (s:Shared) (H:Hp) (scope:Scope) (cenv:Env) (fp:List Addr):Cx:={ X with s_0:=s,H_0:=H,env:=cenv,outer:=X.stack,ex:=fp,fn:=λx=>scope.names.lookup x == some .cell,pn:=[],xe:=λ_ _=>False }
section
variable {X:Cx} {pins:List (Addr×Obj)} {σ:St} {H:Hp} {s:Shared}
theorem zm6 {scope:Scope} {own:List (Str×Nat)} {fp:List Addr} (I:Inv X pins σ H s) (ok:BlkOk X.N X.env.scope scope own) (hN:X.N.Nodup) (hfp:∀b∈fp,FpOk X pins H b∧b < s.heap.objs.size) :
  Inv (X.blk s H scope (compEnvC scope (cellsFrom (s.heap.objs.size+1) scope.names (cloFrom X.env.cells scope.names [])) s.heap.objs.size X.env) fp) [] (wipe σ (own.map (·.2))) H { s with heap:=pushCells (s.heap.push { cls:=.type "dict",data:=.dict #[] }) scope.names }:=by
 have hfree:∀y∈scope.names,y.2=.free→∃c,X.env.cells.lookup y.1=some c:=λy hy e=>by
  rcases ok.free y hy e with k|k
  ·exact I.ok.has _ (.inl k)
  ·exact I.ok.has _ (.inr k)
 generalize hcenv:compEnvC scope (cellsFrom (s.heap.objs.size+1) scope.names (cloFrom X.env.cells scope.names [])) s.heap.objs.size X.env=cenv
 have kp:∀b o,s.heap.get? b=some o→(pushCells (s.heap.push { cls:=.type "dict",data:=.dict #[] }) scope.names).get? b=some o:=λb o e=>pushCells_keeps _ _ _ _ (Heap.get?_push_of_some _ e)
 have hL:cenv.locals=s.heap.objs.size:=by rw[←hcenv];rfl
 have hcl:cenv.cells=cellsFrom (s.heap.objs.size+1) scope.names (cloFrom X.env.cells scope.names []):=by rw[←hcenv];rfl
 have hsc:cenv.scope=relS scope X.env.scope:=by rw[←hcenv];rfl
 rw[←Heap.size_push s.heap { cls:=.type "dict",data:=.dict #[] }] at hcl
 have cm:∀{y c},(y,c)∈cloFrom X.env.cells scope.names []→X.env.cells.lookup y=some c∧c < s.heap.objs.size:=λ{y c} hm=>by
  rcases zdM hm with hm|⟨h1,rfl⟩
  ·cases hm
  ·obtain⟨c,hc⟩:=hfree _ h1 rfl
   rw[hc]
   obtain⟨w,z⟩:=I.cell _ _ hc
   exact⟨rfl,z.lt⟩
 have mem:∀{y c},cenv.cells.lookup y=some c→(X.env.cells.lookup y=some c∧c < s.heap.objs.size)∨(s.heap.objs.size+1≤c∧CellAt (pushCells (s.heap.push { cls:=.type "dict",data:=.dict #[] }) scope.names) c none):=λ{y c} e=>by
  rw[hcl] at e
  rcases zec (PySem.mem_of_lookup e) with hm|⟨_,h2,h3⟩
  ·exact .inl (cm hm)
  ·rw[Heap.size_push] at h2;exact .inr ⟨h2,h3⟩
 have look:∀{y},scope.names.lookup y=some .free→∃c,cenv.cells.lookup y=some c∧X.env.cells.lookup y=some c:=λ{y} hl=>by
  have hy:(y,NameKind.free)∈scope.names:=PySem.mem_of_lookup hl
  obtain⟨c',e'⟩:=mem_lookup (zfI (names:=scope.names) (n:=(s.heap.push { cls:=.type "dict",data:=.dict #[] }).objs.size) (zf7 (cells:=X.env.cells) (acc:=[]) hy))
  rw[←hcl] at e'
  refine⟨c',e',?_⟩
  rw[hcl] at e'
  rcases zec (PySem.mem_of_lookup e') with hm|⟨h1,_,_⟩
  ·exact(cm hm).1
  ·have:=ok.uniq _ h1
   rw[hl] at this;cases this
 have okB:(X.blk s H scope cenv fp).Ok:=by
  refine⟨I.ok.mod,by show cenv.scope.kind=_;rw[hsc];exact ok.kind,by show cenv.globals=_;rw[←hcenv];exact I.ok.glob,by show cenv.builtins=_;rw[←hcenv];exact I.ok.blt,by show s.heap.objs.size≤cenv.locals;rw[hL];exact Nat.le_refl _,
   λy z c e1 e2=>?_,λy hy=>?_,λy c z e=>?_,I.ok.hd,I.ok.frames,.inl rfl,λb hb=>⟨?_,λy c e z=>?_⟩,I.bs,Nat.le_trans I.ok.bsz I.sz,λb o e hb=>?_,λb hb z=>?_,I.stack,I.stkFree⟩
  ·have e1:cenv.cells.lookup y=some c:=e1
   have e2:cenv.cells.lookup z=some c:=e2
   rw[hcl] at e1 e2
   refine zie (λp hp=>?_) (λy z c a b=>I.ok.inj y z c (cm a).1 (cm b).1) (PySem.mem_of_lookup e1) (PySem.mem_of_lookup e2)
   rw[Heap.size_push]
   exact Nat.lt_succ_of_lt (cm (y:=p.1) (c:=p.2) hp).2
  ·show ∃c,cenv.cells.lookup y=some c
   have key:∀k,cenv.kindOf y=some k→(k=.cell∨k=.free)→∃c,cenv.cells.lookup y=some c:=λk hk hk'=>by
    unfold Env.kindOf at hk
    rw[hsc] at hk
    obtain⟨k',e,r⟩:=zeU hk
    have:k'=.cell∨k'=.free:=by
     rcases r with rfl|⟨rfl,_⟩
     ·exact hk'
     ·exact .inr rfl
    rcases this with rfl|rfl
    ·obtain⟨c,hm⟩:=zif (n:=(s.heap.push { cls:=.type "dict",data:=.dict #[] }).objs.size) (acc:=cloFrom X.env.cells scope.names []) (PySem.mem_of_lookup e)
     obtain⟨c',e'⟩:=mem_lookup hm
     exact⟨c',by rw[hcl];exact e'⟩
    ·obtain⟨c,h1,_⟩:=look e
     exact⟨c,h1⟩
   rcases hy with hy|hy
   ·exact key _ hy (.inl rfl)
   ·exact key _ hy (.inr rfl)
  ·have z:(scope.names.lookup y == some NameKind.cell)=true:=z
   have z:scope.names.lookup y=some .cell:=by simpa using z
   have e:cenv.cells.lookup y=some c:=e
   rw[hcl] at e
   rcases zec (PySem.mem_of_lookup e) with hm|⟨_,h2,_⟩
   ·rcases zdM hm with hm|⟨h1,_⟩
    ·cases hm
    ·have q:=ok.uniq _ h1
     rw[z] at q;cases q
   ·rw[Heap.size_push] at h2
    exact Nat.le_of_succ_le h2
  ·show b≠cenv.locals
   rw[hL];exact Nat.ne_of_lt (hfp b hb).2
  ·have e:cenv.cells.lookup y=some c:=e
   rcases mem e with ⟨h1,_⟩|⟨h1,_⟩
   ·exact(hfp b hb).1.2.2.2.2.1 y c h1 z
   ·have h2:s.heap.objs.size+1≤b:=by rw[←z];exact h1
    exact absurd (Nat.lt_of_lt_of_le (hfp b hb).2 (Nat.le_of_succ_le h2)) (Nat.lt_irrefl _)
  ·rcases (hfp b hb).1.2.2.2.1 with z|z
   ·exact I.ok.noex b o e z
   ·exact absurd (Nat.lt_of_lt_of_le (Heap.lt_size e) (Nat.le_trans I.ok.bsz z)) (Nat.lt_irrefl _)
  ·rcases List.mem_cons.mp (I.stkSub b z) with z|z
   ·exact(hfp b hb).1.2.1 z
   ·exact(hfp b hb).1.2.2.1 z
 refine⟨okB,rfl,I.bare,Un.kept kp,⟨λ_=>none,?_,λi y av e1 e2 e3=>?_⟩,λy c e=>?_,?_,λy c e=>?_,λp hp=>?_,I.hok.kept kp,by rw[zeI];exact I.len⟩
 ·show Heap.Ns _ cenv.locals _
  rw[hL]
  exact Heap.Ns.keeps (Heap.Ns.new ..) λb o e=>pushCells_keeps _ _ _ _ e
 ·obtain⟨e2,hne⟩:=zhh e2
  have hfr:scope.names.lookup y=some .free∧(cenv.kindOf y=some .cell∨cenv.kindOf y=some .free):=by
   have key:∀k,cenv.scope.names.lookup y=some k→k=.local∨k=.cell∨k=.free→scope.names.lookup y=some .free∧(cenv.kindOf y=some .cell∨cenv.kindOf y=some .free):=λk hk hk'=>by
    have hk0:=hk
    rw[hsc] at hk
    obtain⟨k',e,r⟩:=zeU hk
    have no:¬ (k'=.local∨k'=.cell):=λhh=>by
     rcases ok.own _ (PySem.mem_of_lookup e) hh with e'|e'
     ·obtain⟨p,hp,hpy⟩:=List.mem_map.mp e'
      have e3:=ok.ix p hp
      have:p.1=y:=hpy
      rw[this] at e3
      exact hne (List.mem_map.mpr ⟨p,hp,zjJ hN e3 e1⟩)
     ·exact e' (List.mem_of_getElem? e1)
    rcases r with rfl|⟨rfl,rfl⟩
    ·rcases hk' with rfl|rfl|rfl
     ·exact absurd (.inl rfl) no
     ·exact absurd (.inr rfl) no
     ·exact⟨e,.inr hk0⟩
    ·exact⟨e,.inl hk0⟩
   have e3:Vis cenv.scope y:=e3
   rcases e3 with e3|e3|e3
   ·exact key _ e3 (.inl rfl)
   ·exact key _ e3 (.inr (.inl rfl))
   ·exact key _ e3 (.inr (.inr rfl))
  obtain⟨m,hn,hl⟩:=I.loc
  have hvis:Vis X.env.scope y:=(ok.free _ (PySem.mem_of_lookup hfr.1) rfl).elim (λk=>.inr (.inl k)) (λk=>.inr (.inr k))
  obtain⟨w,r,q⟩:=hl i y av e1 e2 hvis
  refine⟨w,r,.inr ⟨hfr.2,?_⟩⟩
  obtain⟨c,h1,h2⟩:=look hfr.1
  rcases q with ⟨k,_⟩|⟨_,c',e',z⟩
  ·have k:X.env.scope.names.lookup y=some .local:=k
   rcases ok.free _ (PySem.mem_of_lookup hfr.1) rfl with k'|k'<;>rw[show X.env.scope.names.lookup y=_ from k'] at k<;>cases k
  ·rw[h2] at e';cases e'
   exact⟨c,h1,z.keeps kp⟩
 ·have e:cenv.cells.lookup y=some c:=e
  rcases mem e with ⟨h1,_⟩|⟨_,z⟩
  ·obtain⟨w,z⟩:=I.cell y c h1
   exact⟨w,z.keeps kp⟩
  ·exact⟨_,z⟩
 ·show H cenv.locals=none
  rw[hL];exact I.hok.fresh (Nat.le_refl _)
 ·have e:cenv.cells.lookup y=some c:=e
  rcases mem e with ⟨h1,_⟩|⟨h1,_⟩
  ·exact I.freeC y c h1
  ·exact I.hok.fresh (Nat.le_of_succ_le h1)
 ·exact absurd (show p∈([]:List (Addr×Obj))++[] from hp) (by simp)
theorem zrf {E:Value→Shared→Prop} {D:Addr} {xs:List V} {y:V} {v:Value} {Q:Value→Shared→Prop} (I:Inv X pins σ H s) (hD:H D=some (.lst xs)) (hz:xs.length < sizeLine) (r:RelV y v)
  (h:∀s',Inv X pins σ (upd H D (.lst (xs++[y]))) s'→Q .none s'):wpAny (model X.prog X.w) X.A (call (.builtin "list.append") [.ref D,v]) Q E s:=by
 obtain⟨hz',its,n,ri,e⟩:=I.hok D _ hD
 have hl:=ri.length
 refine append_at (hsz:=by rw[List.size_toArray];omega) e λh' sb ho'=>?_
 refine h { s with heap:=h' } (I.write (t':=s.toks) (by rw[hD];trivial) (.inl rfl) (λb u hb q=>(sb.2 b hb).trans q) ⟨_,ho'⟩ ⟨by rw[List.length_append];exact hz,its++[v],n+1,ri.append (.cons r .nil),?_⟩)
 rw[ho']
 simp
def PTs (X:Cx) (ifs:List Expr) (t:TT):Prop :=
 ∀(pins:List (Addr×Obj)) (s:Shared) (σ:St) (H:Hp) (Q:Bool→Hp→Prop),Inv X pins σ H s→t σ H Q→
  wpAny (model X.prog X.w) X.A (forIn ifs true λc r=>if r=true then do let ok ←isTrue c X.env (eval c X.env);pure (ForInStep.yield ok) else pure (ForInStep.yield r)) (TP X pins σ Q) X.xe s
def tYes:TT:=λ_ H Q=>Q true H
theorem zjx:PTs X [] tYes:=λ_ _ _ H _ I h=>wpAny_tests_nil ⟨H,I,h⟩
theorem zeN {c:Expr} {t:TT} (h:PT X c t):PTs X [c] t:=λpins s σ H Q I hw=>wpAny_tests_one (h pins s σ H Q I hw)
end
theorem thnF {α:Type} {t:Sem α} {Q Q':α→Shared→Prop} {M:Model} {A:Around} {E:Value→Shared→Prop} {s:Shared} (h:wpAny M A t Q (λ_ _=>False) s) (hQ:∀a s,Q a s→Q' a s):wpAny M A t Q' E s:=wpAny_mono h hQ λ_ _ z=>False.elim z
theorem zl1 {prog:Program} {w:World} {A:Around} {R:Result→Shared→Prop} {s:Shared} {elt target iter:Expr} {ifs:List Expr} {scope:Scope} {pos:Pos} {it acc:Value} {env:Env} (I:Nat→Shared→Prop)
  (turn:∀n s,I n s→wpAny (model prog w) A (pyNext it) (λr s₁=>match r with
   | none=>R (.ok .next) s₁
   | some v=>wpAny (model prog w) A (letOwnedTupleGo target it v) (λ_ s₁'=>wpAny (model prog w) A (assign target env v) (λ_ s₂ =>
     wpAny (model prog w) A (forIn ifs true λc r=>if r=true then do let ok ←isTrue c env (eval c env);pure (ForInStep.yield ok) else pure (ForInStep.yield r)) (λok s₃ =>
      if ok=true then wpAny (model prog w) A (eval elt env) (λx s₄ =>
       wpAny (model prog w) A (call (.builtin "list.append") [acc,x]) (λ_ s₅=>∃m,m < n∧I m s₅) (notedBy (model prog w) A env λe s'=>R (.error e) s') s₄) (notedBy (model prog w) A env λe s'=>R (.error e) s') s₃
      else ∃m,m < n∧I m s₃) (notedBy (model prog w) A env λe s'=>R (.error e) s') s₂) (notedBy (model prog w) A env λe s'=>R (.error e) s') s₁') (notedBy (model prog w) A env λe s'=>R (.error e) s') s₁) (notedBy (model prog w) A env λe s'=>R (.error e) s') s)
  (n:Nat) (h:I n s) :
  codeAny (model prog w) A (.compLoop (.ListComp elt [⟨target,iter,ifs,0⟩] scope pos) 0 it acc env) R s:=by
 refine codeAny_loop rfl I (λn s hI=>?_) n h
 show wpAny _ A ((compTurn (.ListComp elt [⟨target,iter,ifs,0⟩] scope pos) 0 it acc env).onRaise (λx=>do noteFrame x env;theTreesLotGoes x)) _ _ s
 refine wpAny_noted ?_
 rw[compTurn_list]
 refine wpAny_bind (wpAny_standAt (wpAny_bind (wpAny_mono (turn n s hI) (λr s₁ h₁=>?_) λ_ _ h'=>h')))
 cases r with
 | none=>exact wpAny_pure h₁
 | some v =>
  refine wpAny_bind (wpAny_mono h₁ (λ_ s₁' h₁'=>?_) λ_ _ h'=>h')
  refine wpAny_bind (wpAny_mono h₁' (λ_ s₂ h₂=>wpAny_bind (wpAny_mono h₂ (λok s₃ h₃=>?_) λ_ _ h'=>h')) λ_ _ h'=>h')
  cases ok with
  | false=>exact wpAny_pure ⟨rfl,h₃⟩
  | true =>
   exact wpAny_bind (wpAny_bind (wpAny_mono h₃ (λx s₄ h₄=>wpAny_bind (wpAny_mono h₄ (λ_ s₅ h₅=>wpAny_pure (wpAny_pure ⟨rfl,h₅⟩)) λ_ _ h'=>h')) λ_ _ h'=>h'))
section
variable {X:Cx}
def tLc (wi:TI) (g:TG) (tt:TT) (te:TE) (vs:List Nat):TE:=λσ H Q=>wi σ H λJ H1=>∀D,H1 D=none→∃W:Nat→Nat→Hp→Prop,(∃m,W 0 m (upd H1 D (.lst [])))∧∀i m H,W i m H→
 (J.stop i H∧Q (.ref D) H)∨(J.go i H∧∃Nx:Hp→Prop,(∀H',Nx H'→∃m',m' < m∧W (i+1) m' H')∧∀x H',J.yld i H x H'→g x (wipe σ vs) H' λσ2 H2=>wipe σ2 vs=wipe σ vs∧tt σ2 H2 λb H3 =>
  if b=true then te σ2 H3 λy H4=>∃acc,H4 D=some (.lst acc)∧acc.length < sizeLine∧Nx (upd H4 D (.lst (acc++[y]))) else Nx H3)
theorem zo7 {pins:List (Addr×Obj)} {s:Shared} {σ:St} {H:Hp} {Q:VK} {elt tg iter:Expr} {ifs:List Expr} {scope:Scope} {own:List (Str×Nat)} {pos pos':Pos} {wi:TI} {g:TG} {tt:TT} {te:TE} {use:Option (Value→Sem Unit)} {Qf:Value→Shared→Prop}
  (hc:X.calm=true) (hN:X.N.Nodup) (I:Inv X pins σ H s) (hi:PI X tg iter wi) (ok:BlkOk X.N X.env.scope scope own)
  (hg:∀(s:Shared) (H:Hp) (C:Addr) (cl:List (Str×Addr)) (fp:List Addr),PG (X.blk s H scope (compEnvC scope cl C X.env) fp) tg g) (ht:∀(s:Shared) (H:Hp) (C:Addr) (cl:List (Str×Addr)) (fp:List Addr),PTs (X.blk s H scope (compEnvC scope cl C X.env) fp) ifs tt)
  (he:∀(s:Shared) (H:Hp) (C:Addr) (cl:List (Str×Addr)) (fp:List Addr),PE (X.blk s H scope (compEnvC scope cl C X.env) fp) elt te) (hs:∀x,foldedSetIterable iter X.env x=pure x)
  (h:tLc wi g tt te (own.map (·.2)) σ H Q)
  (hRR:∀D C s' m H',Inv X pins σ H' s'→Q (.ref D) H'→s'.heap.Ns C m→FpOk X pins H' C→compPost (model X.prog X.w) X.A X.xe use Qf (.ref D) C (.ok .next) s') :
  wpAny (model X.prog X.w) X.A (comprehension (.ListComp elt [⟨tg,iter,ifs,0⟩] scope pos) scope X.env pos' (newList []) false (eval iter X.env) use) Qf X.xe s:=by
 have hfree:∀y∈scope.names,y.2=.free→∃c,X.env.cells.lookup y.1=some c:=λy hy e=>by
  rcases ok.free y hy e with k|k
  ·exact I.ok.has _ (.inl k)
  ·exact I.ok.has _ (.inr k)
 refine wpAny_comprehension_free (use:=use) rfl hs (znh hfree) ok.kind (λy hy e=>by rw[ok.uniq y hy,e])
  (thn (hi pins s σ H _ I h) λxv s1 hx=>thn hx λitv s2 h2=>?_)
 obtain⟨it,fp,tn,J,H2,e,I2,T,st2,f2,q⟩:=h2
 subst e
 refine wpAny_newObj_type (zlD ?_) (by show 0≤sizeLine;decide)
 generalize hD:s2.heap.objs.size=D
 have hDn:H2 D=none:=I2.hok.fresh (Nat.le_of_eq hD)
 obtain⟨W,⟨m0,w0⟩,turn⟩:=q D hDn
 generalize hs3:({ s2 with heap:=s2.heap.push { cls:=.type "list",data:=.seq ([]:List Value).toArray } }:Shared)=s3
 have I3:Inv X pins σ (upd H2 D (.lst [])) s3:=by
  rw[←hs3]
  refine I2.laid (t':=s2.toks) (λb o e=>Heap.get?_push_of_some _ e) (Nat.le_of_eq hD) ⟨Nat.zero_le _,[],0,.nil,?_⟩
  rw[←hD]
  exact Heap.get?_push_size _ rfl
 have h3:s3.heap=s2.heap.push { cls:=.type "list",data:=.seq ([]:List Value).toArray }:=by rw[←hs3]
 have sz:∀b∈fp,b < s2.heap.objs.size:=λb hb=>by
  obtain⟨o,e,_⟩:=T.obj _ _ st2 b hb
  exact Heap.lt_size e
 have f3:∀b∈fp,FpOk X pins (upd H2 D (.lst [])) b∧b < s3.heap.objs.size:=λb hb=>by
  have hlt:=sz b hb
  refine⟨⟨?_,(f2 b hb).2⟩,by rw[h3,Heap.size_push];exact Nat.lt_succ_of_lt hlt⟩
  rw[za6 (by rw[←hD];exact Nat.ne_of_lt hlt)]
  exact(f2 b hb).1
 have st3:tn 0 s3.heap:=T.keep _ _ _ st2 λb _ o e=>by rw[h3];exact Heap.get?_push_of_some _ e
 have I4:=zm6 I3 ok hN f3
 have pg:=hg s3 (upd H2 D (.lst [])) s3.heap.objs.size (cellsFrom (s3.heap.objs.size+1) scope.names (cloFrom X.env.cells scope.names [])) fp
 have pt:=ht s3 (upd H2 D (.lst [])) s3.heap.objs.size (cellsFrom (s3.heap.objs.size+1) scope.names (cloFrom X.env.cells scope.names [])) fp
 have pe:=he s3 (upd H2 D (.lst [])) s3.heap.objs.size (cellsFrom (s3.heap.objs.size+1) scope.names (cloFrom X.env.cells scope.names [])) fp
 show codeAny _ _ (.compStart (.ListComp elt [⟨tg,iter,ifs,0⟩] scope pos) 0 (.ref it) (.ref D) (compEnvC scope (cellsFrom (s3.heap.objs.size+1) scope.names (cloFrom X.env.cells scope.names [])) s3.heap.objs.size X.env)) (compPost (model X.prog X.w) X.A X.xe use Qf (.ref D) s3.heap.objs.size) { s3 with heap:=pushCells (s3.heap.push { cls:=.type "dict",data:=.dict #[] }) scope.names }
 have nfp:∀b∈fp,(upd H2 D (.lst [])) b=none:=λb hb=>(f3 b hb).1.1
 generalize hce:compEnvC scope (cellsFrom (s3.heap.objs.size+1) scope.names (cloFrom X.env.cells scope.names [])) s3.heap.objs.size X.env=ce at I4 pg pt pe ⊢
 have cL:ce.locals=s3.heap.objs.size:=by subst hce;rfl
 generalize hH3:upd H2 D (.lst [])=H3 at I3 I4 pg pt pe w0 nfp f3
 generalize hs4:({ s3 with heap:=pushCells (s3.heap.push { cls:=.type "dict",data:=.dict #[] }) scope.names }:Shared)=s4 at I4 ⊢
 have st4:tn 0 s4.heap:=T.keep _ _ _ st3 λb _ o e=>by rw[←hs4];exact pushCells_keeps _ _ _ _ (Heap.get?_push_of_some _ e)
 have stat:∀{σ':St} {H':Hp} {s':Shared},Inv (X.blk s3 H3 scope ce fp) [] σ' H' s'→(∀b∈fp,H' b=none)→∀b∈fp,FpOk (X.blk s3 H3 scope ce fp) [] H' b:=λ{σ' H' s'} I' hn b hb =>
  ⟨hn b hb,(I'.ok.exf b hb).1,I'.ok.exfs b hb,.inl hb,λx c e=>(I'.ok.exf b hb).2 x c e,λp hp=>absurd (show p∈([]:List (Addr×Obj))++[] from hp) (by simp)⟩
 have loop:codeAny (model X.prog X.w) X.A (.compLoop (.ListComp elt [⟨tg,iter,ifs,0⟩] scope pos) 0 (.ref it) (.ref D) ce) (compPost (model X.prog X.w) X.A X.xe use Qf (.ref D) s3.heap.objs.size) s4:=by
  refine zl1 (λn s'=>∃i H',Inv (X.blk s3 H3 scope ce fp) [] (wipe σ (own.map (·.2))) H' s'∧tn i s'.heap∧(∀b∈fp,H' b=none)∧W i n H') ?_ m0 ⟨0,H3,I4,st4,nfp,w0⟩
  rintro n s5 ⟨i,H5,I5,st5,n5,w5⟩
  rcases turn i n H5 w5 with ⟨stop,qq⟩|⟨go,Nx,hNx,step⟩
  ·have td:=T.done (X.blk s3 H3 scope ce fp) rfl rfl rfl hc i [] s5 _ H5 (λ_ _=>False) I5 (stat I5 n5) st5 stop
   refine thnF td λr s6 ⟨hr,I6⟩=>?_
   subst hr
   have I7:Inv X pins σ H5 s6:=I3.call' (ch:=fp) I6.os I6.base I6.hok I6.bare λb hb=>⟨(f3 b hb).1.2.2.2.1,(f3 b hb).1.2.1,(f3 b hb).1.2.2.2.2.1,(f3 b hb).1.2.2.2.2.2⟩
   have nC:H5 s3.heap.objs.size=none:=by
    have z:H5 ce.locals=none:=I6.free
    rw[cL] at z
    exact z
   obtain⟨m,hn,_⟩:=I6.loc
   have hn:s6.heap.Ns ce.locals m:=hn
   rw[cL] at hn
   exact hRR D s3.heap.objs.size s6 m H5 I7 qq hn (I3.fpOk (Nat.le_refl _) nC)
  ·have ti:=T.item (X.blk s3 H3 scope ce fp) rfl rfl rfl hc i [] s5 _ H5 (λ_ _=>False) I5 (stat I5 n5) st5 go
   refine thnF ti λr s6 ⟨u,hr,h6⟩=>?_
   subst hr
   refine thnF h6 λ_ s7 ⟨x,H7,I7,r7,y7,st7,n7⟩=>?_
   have I7':=I7.pinned (stat I7 n7) (T.obj _ _ st7)
   refine thnF (pg _ s7 _ H7 x u _ I7' r7 (step x H7 y7)) λ_ s8 ⟨σ8,H8,I8,hw8,q8⟩=>?_
   refine thnF (pt _ s8 σ8 H8 _ I8 q8) λb s9 ⟨H9,I9,q9⟩=>?_
   have fin:∀{s':Shared} {H':Hp},Inv (X.blk s3 H3 scope ce fp) ([]++pinsAt fp s7.heap) σ8 H' s'→Nx H'→∃m,m < n∧∃i H',Inv (X.blk s3 H3 scope ce fp) [] (wipe σ (own.map (·.2))) H' s'∧tn i s'.heap∧(∀b∈fp,H' b=none)∧W i m H':=λ{s' H'} I' nx=>by
    obtain⟨m',hm,w'⟩:=hNx H' nx
    have pin':∀b∈fp,∀o,s7.heap.get? b=some o→s'.heap.get? b=some o∧H' b=none:=λb hb o e =>
     let z:=I'.pin (b,o) (List.mem_append_right _ (List.mem_append_right _ (zg4 hb e)))
     ⟨z.1,z.2.1⟩
    have hl:(wipe σ (own.map (·.2))).length=σ8.length:=by rw[←hw8,zeI]
    refine⟨m',hm,i+1,H',(I'.unpinned (pins:=[])).weak hl (λj v e=>?_),T.keep _ _ _ st7 λb hb o e=>(pin' b hb o e).1,λb hb=>?_,w'⟩
    ·rw[←hw8] at e
     exact(zhh e).1
    ·obtain⟨o,e,_⟩:=T.obj _ _ st7 b hb
     exact(pin' b hb o e).2
   cases b with
   | false =>
    simp only[Bool.false_eq_true,if_false] at q9 ⊢
    exact fin I9 q9
   | true =>
    simp only[if_true] at q9 ⊢
    refine thnF (pe _ s9 σ8 H9 _ I9 q9) λz s10 ⟨yv,H10,I10,r10,acc,hD10,hz10,nx⟩=>?_
    exact zrf (X:=X.blk s3 H3 scope ce fp) I10 hD10 hz10 r10 λs11 I11=>fin I11 nx
 exact codeAny_compStart_list loop (T.self X.A 0 _ _ _ st4 loop)
theorem pe_lc {elt tg iter:Expr} {ifs:List Expr} {scope:Scope} {own:List (Str×Nat)} {pos:Pos} {wi:TI} {g:TG} {tt:TT} {te:TE} (hc:X.calm=true) (hN:X.N.Nodup) (hi:PI X tg iter wi) (ok:BlkOk X.N X.env.scope scope own)
  (hg:∀(s:Shared) (H:Hp) (C:Addr) (cl:List (Str×Addr)) (fp:List Addr),PG (X.blk s H scope (compEnvC scope cl C X.env) fp) tg g) (ht:∀(s:Shared) (H:Hp) (C:Addr) (cl:List (Str×Addr)) (fp:List Addr),PTs (X.blk s H scope (compEnvC scope cl C X.env) fp) ifs tt)
  (he:∀(s:Shared) (H:Hp) (C:Addr) (cl:List (Str×Addr)) (fp:List Addr),PE (X.blk s H scope (compEnvC scope cl C X.env) fp) elt te) (hs:∀x,foldedSetIterable iter X.env x=pure x:=by intro _;rfl) :
  PE X (.ListComp elt [⟨tg,iter,ifs,0⟩] scope pos) (tLc wi g tt te (own.map (·.2))):=by
 intro pins s σ H Q I h
 rw[eval_ListComp]
 refine zo7 hc hN I hi ok hg ht he hs h λD C s' m H' I' q hn f=>⟨m,hn,λh'' sb=>?_⟩
 obtain⟨f0,f1,f2,f3,f4,f5⟩:=f
 exact⟨.ref D,H',I'.turned (t':=s'.toks) (λb o hb e=>(sb.2 b hb).trans e) f0 f1 f3 f4 f5,rfl,q⟩
theorem zjy {i:Nat} {y:Str} {py:Pos} {elt tg iter:Expr} {ifs:List Expr} {scope:Scope} {own:List (Str×Nat)} {pos spos:Pos} {wi:TI} {g:TG} {tt:TT} {te:TE} (hc:X.calm=true) (hN:X.N.Nodup) (hy:X.N[i]?=some y) (hyl:X.env.scope.names.lookup y=some .local)
  (hsw:swapsWith (.ListComp elt [⟨tg,iter,ifs,0⟩] scope pos) (some (.Name y py)) spos.line X.env=pure true) (hi:PI X tg iter wi) (ok:BlkOk X.N X.env.scope scope own)
  (hg:∀(s:Shared) (H:Hp) (C:Addr) (cl:List (Str×Addr)) (fp:List Addr),PG (X.blk s H scope (compEnvC scope cl C X.env) fp) tg g) (ht:∀(s:Shared) (H:Hp) (C:Addr) (cl:List (Str×Addr)) (fp:List Addr),PTs (X.blk s H scope (compEnvC scope cl C X.env) fp) ifs tt)
  (he:∀(s:Shared) (H:Hp) (C:Addr) (cl:List (Str×Addr)) (fp:List Addr),PE (X.blk s H scope (compEnvC scope cl C X.env) fp) elt te) (hs:∀x,foldedSetIterable iter X.env x=pure x:=by intro _;rfl) :
  PS X (.Assign [.Name y py] (.ListComp elt [⟨tg,iter,ifs,0⟩] scope pos) spos) (tAsg (tLc wi g tt te (own.map (·.2))) (gName i)):=by
 intro pins s σ H D I h
 rw[exec_Assign_Name_used _ _ _ _ hsw]
 refine wpAny_bind (wpAny_standAt (wpAny_bind ?_))
 show wpAny _ X.A (do let _ ←comprehension (.ListComp elt [⟨tg,iter,ifs,0⟩] scope pos) scope X.env (firstIterPos [⟨tg,iter,ifs,0⟩] pos) (newList []) false (eval iter X.env) (some (assign (.Name y py) X.env))) _ _ s
 have h:tLc wi g tt te (own.map (·.2)) σ H (λx H1=>gName i x σ H1 D.nx):=h
 refine wpAny_bind (thn (zo7 (Qf:=λ_ s'=>SP X pins D .next s') hc hN I hi ok hg ht he hs h λL C s' m H' I' q hn f=>?_) λ_ s' hq=>wpAny_pure (wpAny_pure hq))
 show wpAny _ _ (assign (.Name y py) X.env (.ref L)) _ _ _
 refine wpAny_assign_Name (zki (v:=V.ref L) I' hN hy (.inl hyl) rfl (λs2 I2 ⟨a,sb,ha⟩=>?_) (.inr hyl))
 obtain⟨f0,f1,f2,f3,f4,f5⟩:=f
 have haC:C≠a:=by
  rcases ha with z|z
  ·rw[z];exact f1
  ·exact λe=>f4 y a z e.symm
 refine⟨m,hn.sameBut sb haC,λh3 sb3=>?_⟩
 exact⟨_,H',I2.turned (t':=s2.toks) (λb o hb e=>(sb3.2 b hb).trans e) f0 f1 f3 f4 f5,q⟩
theorem zlo {elt:Expr} {gs:List Comprehension} {scope:Scope} {pos py:Pos} {y:Str} {l:Nat} {env:Env} (hk:env.scope.kind=.function) (hy:env.scope.names.lookup y=some .local) (hl:(py.line == pos.line)=true)
  (ha:(scope.names.any λ(n,k)=>n == y && (k == .local || k == .cell))=false):swapsWith (.ListComp elt gs scope pos) (some (.Name y py)) l env=pure true:=by
 have ky:env.kindOf y=some .local:=hy
 have hb:env.blockKind=.function:=by unfold Env.blockKind;rw[hk];rfl
 unfold swapsWith
 simp only[hb,ky,ha,Expr.pos,hl]
 rfl
end
end L2
namespace L2
open PySem PySem.Spec PyProof.Rows
section
variable {prog:Program} {w:World} {A:Around} {R:Result→Shared→Prop} {s:Shared} {elt t0 i0 t1 i1:Expr} {ifs0 ifs1:List Expr} {scope:Scope} {pos:Pos} {it acc:Value} {env:Env}
end
section
variable {X:Cx}
end
end L2
namespace L2
open PySem PySem.Spec PyProof.Rows
section
variable {κ:Type} [DecidableEq κ]
def valV (kvs:List (κ×V)) (k:κ):Option V:=(kvs.find? λkv=>decide (kv.1=k)).map (·.2)
def putK (kvs:List (κ×V)) (k:κ) (v:V):List (κ×V) :=
 if (kvs.any λkv=>decide (kv.1=k))=true then kvs.map (λkv=>if kv.1=k then (kv.1,v) else kv) else kvs++[(k,v)]
theorem zbk {p:κ×V} {r:List (κ×V)} {k:κ} (e:p.1=k):valV (p::r) k=some p.2:=by simp[valV,List.find?_cons,e]
theorem zbC {p:κ×V} {r:List (κ×V)} {k:κ} (e:¬ p.1=k):valV (p::r) k=valV r k:=by simp[valV,List.find?_cons,e]
theorem zdw (k:κ):∀kvs:List (κ×V),(kvs.any λkv=>decide (kv.1=k))=(valV kvs k).isSome
 | []=>rfl
 | p::r=>by
  rw[List.any_cons]
  by_cases e:p.1=k
  ·simp only[zbk e,decide_eq_true e,Bool.true_or,Option.isSome_some]
  ·rw[zbC e,decide_eq_false e,Bool.false_or];exact zdw k r
theorem zmf (k j:κ) (y:V):∀kvs:List (κ×V),valV (kvs.map λkv=>if kv.1=k then (kv.1,y) else kv) j=(valV kvs j).map λx=>if j=k then y else x
 | []=>rfl
 | p::r=>by
  have ih:=zmf k j y r
  rw[List.map_cons]
  by_cases h:p.1=k
  ·rw[if_pos h]
   by_cases e:p.1=j
   ·rw[zbk (p:=(p.1,y)) e,zbk e,Option.map_some,if_pos (e.symm.trans h)]
   ·rw[zbC (p:=(p.1,y)) e,zbC e,ih]
  ·rw[if_neg h]
   by_cases e:p.1=j
   ·rw[zbk (p:=p) e,zbk e,Option.map_some,if_neg (λz=>h (e.trans z))]
   ·rw[zbC (p:=p) e,zbC e,ih]
theorem zkg (k j:κ) (y:V):∀kvs:List (κ×V),valV kvs k=none→valV (kvs++[(k,y)]) j=if j=k then some y else valV kvs j
 | [],_=>by
  by_cases e:k=j
  ·rw[if_pos e.symm];exact zbk (p:=(k,y)) e
  ·rw[if_neg (λz=>e z.symm)];exact zbC (p:=(k,y)) e
 | p::r,hn=>by
  rw[List.cons_append]
  have hk:¬ p.1=k:=λz=>by rw[zbk z] at hn;cases hn
  rw[zbC hk] at hn
  have ih:=zkg k j y r hn
  by_cases e:p.1=j
  ·rw[zbk e,zbk e,if_neg (λz=>hk (e.trans z))]
  ·rw[zbC e,zbC e,ih]
theorem zp3 (kvs:List (κ×V)) (k j:κ) (y:V):valV (putK kvs k y) j=if j=k then some y else valV kvs j:=by
 unfold putK
 by_cases a:(kvs.any λkv=>decide (kv.1=k))=true
 ·rw[if_pos a,zmf]
  rw[zdw] at a
  by_cases e:j=k
  ·obtain⟨x,hx⟩:=Option.isSome_iff_exists.mp a
   rw[if_pos e,e,hx,Option.map_some,if_pos rfl]
  ·rw[if_neg e]
   cases valV kvs j with
   | none=>rfl
   | some x=>rw[Option.map_some,if_neg e]
 ·rw[if_neg a]
  refine zkg k j y kvs ?_
  rw[zdw] at a
  cases q:valV kvs k with
  | none=>rfl
  | some x=>rw[q] at a;exact(a rfl).elim
theorem zeW (kvs:List (κ×V)) (k:κ) (v:V):(putK kvs k v).length≤kvs.length+1:=by
 unfold putK
 split
 ·rw[List.length_map];omega
 ·rw[List.length_append,List.length_cons,List.length_nil];omega
theorem zph {kvs:List (κ×V)} {k:κ} (v:V) (h:valV kvs k=none):putK kvs k v=kvs++[(k,v)]:=by
 unfold putK
 rw[zdw,h]
 exact if_neg (by decide)
theorem RelO.zi0 {o:Option V} {u:Option Value} (r:RelO o u):o.isSome=u.isSome:=by
 cases o with
 | none=>cases u with
  | none=>rfl
  | some _=>exact(show False from r).elim
 | some _=>cases u with
  | none=>exact(show False from r).elim
  | some _=>rfl
theorem RelO.getD {o:Option V} {u:Option Value} {d:V} {d':Value} (r:RelO o u) (rd:RelV d d'):RelV (o.getD d) (u.getD d'):=by
 cases o with
 | none=>cases u with
  | none=>exact rd
  | some _=>exact(show False from r).elim
 | some _=>cases u with
  | none=>exact(show False from r).elim
  | some _=>exact r
theorem KV.val {kvs:List (κ×V)} {vs:List (κ×Value)} (r:KV kvs vs) (k:κ):RelO (valV kvs k) (valueAt vs k):=by
 unfold KV at r
 induction r with
 | nil=>exact True.intro
 | @cons p q ps qs h t ih =>
  obtain⟨h1,h2⟩:=h
  by_cases e:p.1=k
  ·have e':q.1=k:=h1.symm.trans e
   have b:valueAt (q::qs) k=some q.2:=by simp[valueAt,List.find?_cons,e']
   rw[zbk e,b];exact h2
  ·have e':¬ q.1=k:=λz=>e (h1.trans z)
   have b:valueAt (q::qs) k=valueAt qs k:=by simp[valueAt,List.find?_cons,e']
   rw[zbC e,b];exact ih
theorem KV.any {kvs:List (κ×V)} {vs:List (κ×Value)} (r:KV kvs vs) (k:κ):(kvs.any λkv=>decide (kv.1=k))=vs.any λkv=>decide (kv.1=k):=by
 unfold KV at r
 induction r with
 | nil=>rfl
 | cons h t ih=>rw[List.any_cons,List.any_cons,ih,h.1]
theorem KV.repl {kvs:List (κ×V)} {vs:List (κ×Value)} (r:KV kvs vs) (k:κ) {y:V} {u:Value} (ry:RelV y u) :
  KV (kvs.map λkv=>if kv.1=k then (kv.1,y) else kv) (vs.map λkv=>if kv.1=k then (kv.1,u) else kv):=by
 unfold KV at r ⊢
 induction r with
 | nil=>exact .nil
 | @cons p q ps qs h t ih =>
  rw[List.map_cons,List.map_cons]
  refine .cons ?_ ih
  obtain⟨h1,h2⟩:=h
  by_cases e:p.1=k
  ·rw[if_pos e,if_pos (h1.symm.trans e)];exact⟨h1,ry⟩
  ·rw[if_neg e,if_neg (λz=>e (h1.trans z))];exact⟨h1,h2⟩
theorem KV.put {kvs:List (κ×V)} {vs:List (κ×Value)} (r:KV kvs vs) (k:κ) {y:V} {u:Value} (ry:RelV y u):KV (putK kvs k y) (stored vs k u):=by
 unfold putK stored
 rw[r.any k]
 by_cases e:(vs.any λkv=>decide (kv.1=k))=true
 ·rw[if_pos e,if_pos e];exact r.repl k ry
 ·rw[if_neg e,if_neg e];exact Paired.snoc r ⟨rfl,ry⟩
theorem KV.length {kvs:List (κ×V)} {vs:List (κ×Value)} (r:KV kvs vs):kvs.length=vs.length:=Paired.length r
end
theorem kV_is {P:Program} {w:World} {k:Key} {u:Value} (r:RelV (kV k) u):(mixKind P w).is k u=true:=by
 cases k with
 | inl i=>obtain⟨t,e⟩:=(show ∃t,u=Value.int i t from r);subst e;exact zlF P w i t
 | inr x=>obtain⟨t,e⟩:=(show ∃t,u=Value.str x t from r);subst e;exact zlE P w x t
theorem zr6 {P:Program} {w:World} {k:Key} {v:V} {u:Value} (i:IsK k v) (r:RelV v u):(bixKind P w).is k u=true:=by
 rcases i with rfl|⟨b,rfl,rfl⟩
 ·cases k with
  | inl i=>obtain⟨t,e⟩:=(show ∃t,u=Value.int i t from r);subst e;exact zpC i t
  | inr x=>obtain⟨t,e⟩:=(show ∃t,u=Value.str x t from r);subst e;exact zpB x t
 ·cases (show u=Value.bool b from r)
  exact zoc b
theorem zj5 {P:Program} {w:World}:∀{ks:List Key} {ys:List V} {us:List Value},Paired IsK ks ys→Vals ys us→ItemsAre (bixKind P w) ks us
 | _,_,_,.nil,r=>by cases r;exact .nil
 | _,_,_,.cons i p,r=>by
  cases r with
  | cons h t=>exact .cons (zr6 i h) (zj5 p t)
abbrev KT (H:Hp):List (List Key×V)→List (List Key×Addr×Value)→Prop:=Paired λp q=>p.1=q.1∧TK H q.2.1 p.1∧RelV p.2 q.2.2
theorem KT.val {H:Hp} {kvs:List (List Key×V)} {xs:List (List Key×Addr×Value)} (r:KT H kvs xs) (k:List Key):RelO (valV kvs k) ((atKey xs k).map (·.2)):=by
 induction r with
 | nil=>exact True.intro
 | @cons p q ps qs h t ih =>
  obtain⟨h1,_,h2⟩:=h
  by_cases e:p.1=k
  ·have e':q.1=k:=h1.symm.trans e
   have b:atKey (q::qs) k=some q.2:=by simp[atKey,List.find?_cons,e']
   rw[zbk e,b];exact h2
  ·have e':¬ q.1=k:=λz=>e (h1.trans z)
   have b:atKey (q::qs) k=atKey qs k:=by simp[atKey,List.find?_cons,e']
   rw[zbC e,b];exact ih
theorem KT.repl {H:Hp} {kvs:List (List Key×V)} {xs:List (List Key×Addr×Value)} (r:KT H kvs xs) (k:List Key) {y:V} {u:Value} (ry:RelV y u) :
  KT H (kvs.map λkv=>if kv.1=k then (kv.1,y) else kv) (xs.map (putAt k u)):=by
 induction r with
 | nil=>exact .nil
 | @cons p q ps qs h t ih =>
  rw[List.map_cons,List.map_cons]
  refine .cons ?_ ih
  obtain⟨h1,h2,h3⟩:=h
  unfold putAt
  by_cases e:p.1=k
  ·rw[if_pos e,if_pos (h1.symm.trans e)];exact⟨h1,h2,ry⟩
  ·rw[if_neg e,if_neg (λz=>e (h1.trans z))];exact⟨h1,h2,h3⟩
theorem KT.put {H:Hp} {kvs:List (List Key×V)} {xs:List (List Key×Addr×Value)} (r:KT H kvs xs) (k:List Key) {b:Addr} {y:V} {u:Value} (hb:TK H b k) (ry:RelV y u) :
  KT H (putK kvs k y) (storedH xs k b u):=by
 have e:(kvs.any λkv=>decide (kv.1=k))=(atKey xs k).isSome:=by
  rw[zdw,(r.val k).zi0,Option.isSome_map]
 unfold putK storedH
 rw[e]
 by_cases q:(atKey xs k).isSome=true
 ·rw[if_pos q,if_pos q];exact r.repl k ry
 ·rw[if_neg q,if_neg q];exact Paired.snoc r ⟨rfl,hb,ry⟩
theorem KT.keeps {H H':Hp} {kvs:List (List Key×V)} {xs:List (List Key×Addr×Value)} (r:KT H kvs xs) (ht:∀b ys,H b=some (.tup ys)→H' b=some (.tup ys)):KT H' kvs xs :=
 Paired.mapP r λ_ _ z=>⟨z.1,z.2.1.keeps ht,z.2.2⟩
section
variable {P:Program} {w:World} {H:Hp} {h:Heap} {a:Addr}
theorem rd_of {u:HO} (ok:HOk P w H h) (e:Rd H a u):ObjOk P w H h a u:=e.ok ok
theorem dk_rd {kvs:List (Key×V)} (ok:HOk P w H h) (e:Rd H a (.dK kvs)):kvs.length≤sizeLine∧(a == sysModules)=false∧∃vs,KV kvs vs∧h.DictOf (mixKind P w) a vs :=
 show ObjOk P w H h a (.dK kvs) from rd_of ok e
theorem dk_of {kvs:List (Key×V)} (ok:HOk P w H h) (e:H a=some (.dK kvs)):kvs.length≤sizeLine∧(a == sysModules)=false∧∃vs,KV kvs vs∧h.DictOf (mixKind P w) a vs:=dk_rd ok (.inl e)
theorem zj4 {ks:List Key} (ok:HOk P w H h) (e:TK H a ks):(tupleKind (bixKind P w)).is h ks a:=by
 obtain⟨ys,e,p⟩:=e
 obtain⟨_,its,r,o,h1,h2,n,h3⟩:=(show ObjOk P w H h a (.tup ys) from ok a _ e)
 exact⟨o,its.toArray,n,h1,h2,h3,by simpa using zj5 p r⟩
theorem dt_rd {kvs:List (List Key×V)} (ok:HOk P w H h) (e:Rd H a (.dT kvs)):kvs.length≤sizeLine∧(a == sysModules)=false∧
  ∃xs,KT H kvs xs∧h.DictOfH (tupleKind (bixKind P w)) a xs:=by
 obtain⟨z,y,xs,r,o,es,ep,h1,h2,h3,h4,h5⟩:=(show ObjOk P w H h a (.dT kvs) from rd_of ok e)
 refine⟨z,y,xs,r,o,es,ep,h1,h2,h3,h4,λx hx=>?_,h5⟩
 have all:∀{l:List (List Key×V)} {m:List (List Key×Addr×Value)},KT H l m→∀x∈m,(tupleKind (bixKind P w)).is h x.1 x.2.1:=by
  intro l m q
  induction q with
  | nil=>intro x hx;exact nomatch hx
  | @cons p q ps qs hq t ih =>
   intro x hx
   rcases List.mem_cons.mp hx with e|hx
   ·subst e
    exact zj4 ok (by rw[←hq.1];exact hq.2.1)
   ·exact ih x hx
 exact all r x hx
theorem dt_of {kvs:List (List Key×V)} (ok:HOk P w H h) (e:H a=some (.dT kvs)):kvs.length≤sizeLine∧(a == sysModules)=false∧
  ∃xs,KT H kvs xs∧h.DictOfH (tupleKind (bixKind P w)) a xs:=dt_rd ok (.inl e)
end
def DGet (H:Hp) (a:Addr) (y:V) (r:Option V):Prop :=
 (∃kvs k,Rd H a (.dK kvs)∧y=kV k∧r=valV kvs k)∨∃kvs k b,Rd H a (.dT kvs)∧y=.ref b∧TK H b k∧r=valV kvs k
def DPut (H:Hp) (a:Addr) (y v:V) (H':Hp):Prop :=
 (∃kvs k,H a=some (.dK kvs)∧y=kV k∧kvs.length < sizeLine∧H'=upd H a (.dK (putK kvs k v)))∨
 ∃kvs k b,H a=some (.dT kvs)∧y=.ref b∧TK H b k∧kvs.length < sizeLine∧H'=upd H a (.dT (putK kvs k v))
theorem DGet.k {H:Hp} {a:Addr} {kvs:List (Key×V)} {k:Key} (e:H a=some (.dK kvs)):DGet H a (kV k) (valV kvs k):=.inl ⟨kvs,k,.inl e,rfl,rfl⟩
theorem DGet.t {H:Hp} {a b:Addr} {kvs:List (List Key×V)} {k:List Key} (e:H a=some (.dT kvs)) (eb:TK H b k):DGet H a (.ref b) (valV kvs k):=.inr ⟨kvs,k,b,.inl e,rfl,eb,rfl⟩
theorem DPut.k {H:Hp} {a:Addr} {kvs:List (Key×V)} {k:Key} {v:V} (e:H a=some (.dK kvs)) (hl:kvs.length < sizeLine):DPut H a (kV k) v (upd H a (.dK (putK kvs k v))):=.inl ⟨kvs,k,e,rfl,hl,rfl⟩
theorem DPut.t {H:Hp} {a b:Addr} {kvs:List (List Key×V)} {k:List Key} {v:V} (e:H a=some (.dT kvs)) (eb:TK H b k) (hl:kvs.length < sizeLine) :
  DPut H a (.ref b) v (upd H a (.dT (putK kvs k v))):=.inr ⟨kvs,k,b,e,rfl,eb,hl,rfl⟩
section
variable {X:Cx} {pins:List (Addr×Obj)} {σ:St} {H:Hp} {s:Shared} {a:Addr} {y v:V} {u r:Value} {o:Option V} {A:Around} {E:Value→Shared→Prop}
theorem Inv.big (I:Inv X pins σ H s):sysModules < s.heap.objs.size:=by
 have h:mainGlobals < s.heap.objs.size:=(I.mod.glob.keeps I.bk).lt
 exact Nat.lt_trans (by decide) h
theorem zoF {Q:Value→Shared→Prop} (hu:A.units+1 < cLine) (I:Inv X pins σ H s) (g:DGet H a y (some v)) (ry:RelV y u) (h:∀w' s',Inv X pins σ H s'→RelV v w'→Q w' s') :
  wpAny (model X.prog X.w) A (getItem (.ref a) u) Q E s:=by
 rcases g with ⟨kvs,k,e,ey,l⟩|⟨kvs,k,b,e,ey,eb,l⟩
 ·subst ey
  obtain⟨z,hd,vs,rel,dd⟩:=dk_rd I.hok e
  obtain⟨w',hw,rw'⟩:=RelO.some_of (v:=v) (o:=valueAt vs k) (by rw[l];exact rel.val k)
  exact wpAny_getItem_of (kV_is ry) dd.mapOf hw (h w' _ (I.tok _) rw')
 ·subst ey
  cases (show u=Value.ref b from ry)
  obtain⟨z,hd,xs,rel,dd⟩:=dt_rd I.hok e
  obtain⟨w',hw,rw'⟩:=RelO.some_of (v:=v) (o:=(atKey xs k).map (·.2)) (by rw[l];exact rel.val k)
  obtain⟨p,hp,hp2⟩:=Option.map_eq_some_iff.mp hw
  refine wpAny_getItem_heap (tupleKind_room_in1 hu) (zj4 I.hok eb) dd hp ?_
  rw[hp2]
  exact h w' _ (I.tok _) rw'
theorem zqG {Q:Value→Shared→Prop} (hu:A.units+1 < cLine) (I:Inv X pins σ H s) (g:DGet H a y o) (ry:RelV y u) (h:∀s',Inv X pins σ H s'→Q (.bool (!o.isSome)) s') :
  wpAny (model X.prog X.w) A (compareOp .NotIn u (.ref a)) Q E s:=by
 rcases g with ⟨kvs,k,e,ey,l⟩|⟨kvs,k,b,e,ey,eb,l⟩
 ·subst ey
  obtain⟨z,hd,vs,rel,dd⟩:=dk_rd I.hok e
  refine wpAny_notIn_of (kV_is ry) hd dd.mapOf ?_
  rw[←(rel.val k).zi0,←l]
  exact h _ (I.tok _)
 ·subst ey
  cases (show u=Value.ref b from ry)
  obtain⟨z,hd,xs,rel,dd⟩:=dt_rd I.hok e
  refine wpAny_notIn_heap (tupleKind_room_in1 hu) (zj4 I.hok eb) hd dd ?_
  have q:=(rel.val k).zi0
  rw[Option.isSome_map] at q
  rw[←q,←l]
  exact h _ (I.tok _)
theorem zlP {h':Heap} {t':Nat} {ob:HO} (I:Inv X pins σ H s) (mu:Mut (H a)) (hs:Heap.SameBut a s.heap h') (he:∃q,h'.get? a=some q) (new:ObjOk X.prog X.w (upd H a ob) h' a ob) :
  Inv X pins σ (upd H a ob) { s with heap:=h',toks:=t' } :=
 I.write (x:=a) (e:=a) mu (.inl rfl) (λb q hb z=>(hs.2 b hb).trans z) he new
theorem zrb {P:Program} {w:World} {H':Hp} {h':Heap} {kvs:List (Key×V)} {vs:List (Key×Value)} (z:kvs.length≤sizeLine) (hd:(a == sysModules)=false) (rel:KV kvs vs) (dd:h'.DictOf (mixKind P w) a vs) :
  ObjOk P w H' h' a (.dK kvs):=⟨z,hd,vs,rel,dd⟩
theorem zoE {H':Hp} {Q:Unit→Shared→Prop} (hu:A.units+1 < cLine) (I:Inv X pins σ H s) (g:DPut H a y v H') (ry:RelV y u) (rv:RelV v r) (h:∀s',Inv X pins σ H' s'→Q () s') :
  wpAny (model X.prog X.w) A (setItem (.ref a) u r) Q E s:=by
 rcases g with ⟨kvs,k,e,ey,l,eH⟩|⟨kvs,k,b,e,ey,eb,l,eH⟩
 ·subst ey eH
  obtain⟨z,hd,vs,rel,dd⟩:=dk_of I.hok e
  have hz:vs.length≤sizeLine:=by rw[←rel.length];exact z
  have hl:(putK kvs k v).length≤sizeLine:=by have:=zeW kvs k v;omega
  refine wpAny_setItem_pairs (hsz:=hz) (kV_is ry) dd λh' dd' hs=>h _ ?_
  have he:∃q,h'.get? a=some q:=let ⟨q,_,_,hq,_⟩:=dd';⟨q,hq⟩
  exact zlP I (by rw[e];exact True.intro) hs he (zrb hl hd (rel.put k rv) dd')
 ·subst ey eH
  cases (show u=Value.ref b from ry)
  obtain⟨z,hd,xs,rel,dd⟩:=dt_of I.hok e
  have hz:xs.length≤sizeLine:=by rw[←Paired.length rel];exact z
  have hl:(putK kvs k v).length≤sizeLine:=by have:=zeW kvs k v;omega
  refine wpAny_setItem_heap (hsz:=hz) (tupleKind_room_in1 hu) (zj4 I.hok eb) dd λh' dd' hs=>h _ ?_
  obtain⟨q,es,ep,hq,h2,h3,h4,_,h5⟩:=dd'
  refine zlP I (by rw[e];exact True.intro) hs ⟨q,hq⟩ ⟨hl,hd,_,(rel.put k eb rv).keeps λc ys ec=>?_,q,es,ep,hq,h2,h3,h4,h5⟩
  rw[za6 (ne_of ec e (λz=>nomatch z))]
  exact ec
end
section
variable {X:Cx} {pins:List (Addr×Obj)} {σ:St} {H:Hp} {s:Shared} {a:Addr} {kvs:List (Key×V)} {k:Key} {u:Value} {A:Around} {E:Value→Shared→Prop}
theorem d_len {Q:Value→Shared→Prop} (I:Inv X pins σ H s) (e:Rd H a (.dK kvs)) (h:∀t s',Inv X pins σ H s'→Q (.int kvs.length t) s'):wpAny (model X.prog X.w) A (call (.builtin "len") [.ref a]) Q E s:=by
 obtain⟨z,hd,vs,rel,dd⟩:=dk_rd I.hok e
 refine call_len_dict hd dd (by rw[←rel.length];rw[sizeLine_eq] at z;omega) ?_
 rw[←rel.length]
 exact h _ _ (I.tok _)
end
def NoSl (i:Expr):Prop:=∀ov iv,subscripted i false ov iv=operate [ov,iv] (getItem ov iv)
theorem zqb {prog:Program} {w:World} {A:Around} {E:Value→Shared→Prop} {s:Shared} {env:Env} {value slice:Expr} {pos:Pos} {T id:String} {Q:Value→Shared→Prop}
  (hl:typeLookup (.type T) "__getitem__"=pure (some (.builtin id))) (hs:NoSl slice)
  (h:wpAny (model prog w) A (eval value env) (λo s₁=>wpAny (model prog w) A (eval slice env) (λi s₂=>s₂.TypeIs o T∧wpAny (model prog w) A (getItem o i) Q E s₂) E s₁) E s) :
  wpAny (model prog w) A (eval (.Subscript value slice pos) env) Q E s:=by
 refine Subscript_ (wpAny_mono h (λo s₁ h₁=>wpAny_mono h₁ (λi s₂ h₂=>?_) λ_ _ x=>x) λ_ _ x=>x)
 obtain⟨hT,h₂⟩:=h₂
 unfold subscriptTail
 refine wpAny_bind ?_
 rw[getitemInPython_of_ne hT.not_modules]
 refine wpAny_bind (wpAny_specialOf hT hl ?_)
 have fin:wpAny (model prog w) A (subscripted slice false o i) (λr s₃=>wpAny (model prog w) A (letTemporaryGo value o r >>= λ_=>pure r) Q E s₃) E s₂:=by
  rw[hs o i]
  exact wpAny_operating (wpAny_mono h₂ (λr s₃ h₃=>wpAny_bind (wpAny_letTemporaryGo (wpAny_pure h₃))) λ_ _ x=>x)
 first
  | exact wpAny_pure (wpAny_bind fin)
  | exact wpAny_bind (wpAny_pure (wpAny_bind fin))
  | exact wpAny_bind fin
theorem zlO {X:Cx} {pins:List (Addr×Obj)} {σ:St} {H:Hp} {s:Shared} {a:Addr} {y:V} {o:Option V} (I:Inv X pins σ H s) (g:DGet H a y o):s.TypeIs (.ref a) "dict":=by
 rcases g with ⟨kvs,k,e,_,_⟩|⟨kvs,k,b,e,_,_,_⟩
 ·obtain⟨_,_,vs,_,dd⟩:=dk_rd I.hok e
  exact dd.typeIs
 ·obtain⟨_,_,xs,_,dd⟩:=dt_rd I.hok e
  exact dd.typeIs
def tDGet (td ty:TE):TE:=λσ H Q=>td σ H λx H1=>ty σ H1 λy H2=>∃a v,x=.ref a∧DGet H2 a y (some v)∧Q v H2
def tDNotIn (ty td:TE):TE:=λσ H Q=>ty σ H λy H1=>td σ H1 λx H2=>∃a o,x=.ref a∧DGet H2 a y o∧Q (.bl (!o.isSome)) H2
def sDPut (td ty tv:TE):TS:=λD σ H=>tv σ H λv H1=>td σ H1 λx H2=>ty σ H2 λy H3=>∃a H4,x=.ref a∧DPut H3 a y v H4∧D.nx σ H4
section
variable {X:Cx} {o i e value:Expr} {pos pos' tpos:Pos} {td ty tv:TE}
theorem zlt (hu:X.A.units+1 < cLine) (ho:PE X o td) (hi:PE X i ty) (hs:NoSl i):PE X (.Subscript o i pos) (tDGet td ty):=by
 intro pins s σ H Q I h
 refine zqb PySem.F.slot_dict_getitem.lookup hs (thn (ho pins s σ H _ I h) λu s1 ⟨x,H1,I1,rx,q1⟩=>thn (hi pins s1 σ H1 _ I1 q1) λiv s2 ⟨y,H2,I2,ry,a,v,ex,g,q2⟩=>?_)
 subst ex
 obtain rfl:u=Value.ref a:=rx
 exact⟨zlO I2 g,zoF hu I2 g ry λw' s3 I3 rw'=>⟨v,H2,I3,rw',q2⟩⟩
theorem znO (hu:X.A.units+1 < cLine) (hi:PE X i ty) (ho:PE X o td):PC X .NotIn i o (tDNotIn ty td):=by
 intro pins s σ H Q I h
 refine thn (hi pins s σ H _ I h) λiv s1 ⟨y,H1,I1,ry,q1⟩=>thn (ho pins s1 σ H1 _ I1 q1) λu s2 ⟨x,H2,I2,rx,a,ov,ex,g,q2⟩=>?_
 subst ex
 obtain rfl:u=Value.ref a:=rx
 exact zqG hu I2 g ry λs3 I3=>⟨.bl (!ov.isSome),H2,I3,rfl,q2⟩
theorem zeO (hu:X.A.units+1 < cLine) (ho:PE X o td) (hi:PE X i ty) (hv:PE X value tv) (hs:swapsWith value (some (.Subscript o i pos')) pos.line X.env=pure false) :
  PS X (.Assign [.Subscript o i pos'] value pos) (sDPut td ty tv):=by
 intro pins s σ H D I h
 refine wpAny_Assign_Subscript (thn (hv pins s σ H _ I h) λr s1 ⟨v,H1,I1,rv,q1⟩=>thn (ho pins s1 σ H1 _ I1 q1) λu s2 ⟨x,H2,I2,rx,q2⟩=>thn (hi pins s2 σ H2 _ I2 q2) λiv s3 ⟨y,H3,I3,ry,a,H4,ex,g,q3⟩=>?_) hs
 subst ex
 obtain rfl:u=Value.ref a:=rx
 exact zoE hu I3 g ry rv λs4 I4=>⟨σ,H4,I4,q3⟩
end
theorem zpN {P:Program} {w:World} {H:Hp} (h:Heap) (hb:sysModules < h.objs.size):ObjOk P w H (h.push { cls:=.type "dict",data:=.dict #[] }) h.objs.size (.dK []) :=
 ⟨Nat.zero_le _,beq_eq_false_iff_ne.mpr (Ne.symm (Nat.ne_of_lt hb)),[],.nil,Heap.DictOf.new h⟩
theorem zpM {P:Program} {w:World} {H:Hp} (h:Heap) (hb:sysModules < h.objs.size):ObjOk P w H (h.push { cls:=.type "dict",data:=.dict #[] }) h.objs.size (.dT []) :=
 ⟨Nat.zero_le _,beq_eq_false_iff_ne.mpr (Ne.symm (Nat.ne_of_lt hb)),[],.nil,_,#[],0,Heap.get?_push_size _ rfl,⟨rfl,rfl,rfl⟩,rfl,rfl,List.nodup_nil⟩
def tDNewK:TE:=λ_ H Q=>∀p,H p=none→Q (.ref p) (upd H p (.dK []))
section
variable {X:Cx} {pos:Pos}
theorem zjz:PE X (.Dict [] [] pos) tDNewK:=λpins s σ H Q I h =>
 wpAny_Dict_empty ⟨.ref s.heap.objs.size,_,I.laid (a:=s.heap.objs.size) (o:=.dK []) (t':=s.toks) (λ_ _ q=>Heap.get?_push_of_some _ q) (Nat.le_refl _) (zpN s.heap I.big),rfl,h _ (I.hok.fresh (Nat.le_refl _))⟩
end
structure M2 (X:Cx) (o:Expr) (m:Str) (apos:Pos) (e f:Expr) (cpos:Pos):Prop where
 base:attributeBase o m X.env (eval o X.env)=eval o X.env
 few:((backTo cpos (starEach [e,f] X.env)).all (λx=>!x.1) && (backToKw cpos (keywordEach [] X.env)).all (λx=>x.1.isSome)
  && decide (([e,f]:List Expr).length+([]:List Keyword).length+(if ([]:List Keyword).isEmpty then 0 else 1) < 30))=true
 line:(apos.endLine == cpos.line)=true
 trees:backTo cpos (starEach [e,f] X.env)=[(false,eval e X.env),(false,eval f X.env)]
def IsD (H:Hp) (a:Addr):Prop:=(∃kvs,Rd H a (.dK kvs))∨∃kvs,Rd H a (.dT kvs)
theorem zr7 {X:Cx} {pins:List (Addr×Obj)} {σ:St} {H:Hp} {s:Shared} {a:Addr} (I:Inv X pins σ H s) (d:IsD H a) :
  s.TypeIs (.ref a) "dict"∧(∀b,Value.ref a=.ref b→∃ob,s.heap.get? b=some ob∧ob.dict=none)∧(a == sysModules)=false:=by
 rcases d with ⟨kvs,e⟩|⟨kvs,e⟩
 ·obtain⟨_,hd,vs,_,dd⟩:=dk_rd I.hok e
  refine⟨dd.typeIs,λb q=>?_,hd⟩
  cases q
  obtain⟨ob,_,_,h1,h2,_⟩:=dd
  exact⟨ob,h1,h2.2.1⟩
 ·obtain⟨_,hd,xs,_,dd⟩:=dt_rd I.hok e
  refine⟨dd.typeIs,λb q=>?_,hd⟩
  cases q
  obtain⟨ob,_,_,h1,h2,_⟩:=dd
  exact⟨ob,h1,h2.2.1⟩
section
variable {X:Cx} {pins:List (Addr×Obj)} {σ:St} {H:Hp} {s:Shared} {a:Addr} {y d:V} {u r:Value} {o:Option V} {A:Around} {E:Value→Shared→Prop}
theorem zrc {Q:Value→Shared→Prop} (hu:A.units+1 < cLine) (I:Inv X pins σ H s) (g:DGet H a y o) (ry:RelV y u) (rd:RelV d r) (h:∀w' s',Inv X pins σ H s'→RelV (o.getD d) w'→Q w' s') :
  wpAny (model X.prog X.w) A (call (.builtin "dict.get") [.ref a,u,r]) Q E s:=by
 rcases g with ⟨kvs,k,e,ey,l⟩|⟨kvs,k,b,e,ey,eb,l⟩
 ·subst ey
  obtain⟨z,hd,vs,rel,dd⟩:=dk_rd I.hok e
  refine call_meetsIn PySem.F.slot_dict_get dd.typeIs PySem.F.entry_dict_get (PySem.F.args_dict_get_3 _ _ _) (meets_dict_get_default (mixKind X.prog X.w) a (kV_is ry) hd r) ⟨_,dd.mapOf,h _ _ (I.tok _) ?_⟩
  rw[l]
  exact(rel.val k).getD rd
 ·subst ey
  cases (show u=Value.ref b from ry)
  obtain⟨z,hd,xs,rel,dd⟩:=dt_rd I.hok e
  refine call_meetsIn PySem.F.slot_dict_get dd.typeIs PySem.F.entry_dict_get (PySem.F.args_dict_get_3 _ _ _) (meetsH_dict_get_default (tupleKind (bixKind X.prog X.w)) a b hd r) ⟨tupleKind_room_in1 hu,k,xs,zj4 I.hok eb,dd,h _ _ (I.tok _) ?_⟩
  rw[l]
  exact(rel.val k).getD rd
end
def tDGet2 (td ty tx:TE):TE:=λσ H Q=>td σ H λx H1=>∃a,x=.ref a∧IsD H1 a∧ty σ H1 λy H2=>tx σ H2 λz H3=>∃o,DGet H3 a y o∧Q (o.getD z) H3
section
variable {X:Cx} {o e f:Expr} {apos cpos:Pos} {td ty tx:TE}
theorem zpq (hu:X.A.units+1 < cLine) (ho:PE X o td) (he:PE X e ty) (hf:PE X f tx) (m:M2 X o "get" apos e f cpos):PE X (.Call (.Attribute o "get" apos) [e,f] [] cpos) (tDGet2 td ty tx):=by
 intro pins s σ H Q I h
 refine wpAny_Call_method m.base m.few m.line PySem.F.plainAttrs_dict PySem.F.slot_dict_get PySem.F.type_dict_get (thn (ho pins s σ H _ I h) λu s1 ⟨x,H1,I1,rx,a,ex,d,q1⟩=>?_)
 subst ex
 obtain rfl:u=Value.ref a:=rx
 obtain⟨t1,t2,_⟩:=zr7 I1 d
 refine⟨t1,t2,?_⟩
 rw[m.trees]
 refine Calls.callWith_builtin rfl (Calls.evalArgs_plain (Calls.spliced_cons (thn (he pins s1 σ H1 _ I1 q1) λiv s2 ⟨y,H2,I2,ry,q2⟩ =>
  Calls.spliced_cons (thn (hf pins s2 σ H2 _ I2 q2) λfv s3 ⟨z,H3,I3,rz,ov,g,q3⟩=>Calls.spliced_nil ?_))))
 exact zrc hu I3 g ry rz λw' s4 I4 rw'=>⟨_,H3,I4,rw',q3⟩
end
section
variable {X:Cx} {pins:List (Addr×Obj)} {σ:St} {H:Hp} {s:Shared} {a:Addr} {kvs:List (Key×V)} {A:Around} {E:Value→Shared→Prop}
end
section
variable {X:Cx} {pins:List (Addr×Obj)} {σ:St} {H:Hp} {s:Shared} {a:Addr} {y:V} {u:Value} {A:Around} {E:Value→Shared→Prop}
end
end L2
namespace L2
open PySem PySem.Spec PyProof.Rows
section
variable {prog:Program} {w:World} {A:Around} {E:Value→Shared→Prop}
end
section
variable {X:Cx}
end
end L2
namespace L2
open PySem PySem.Spec PyProof.Rows
section
variable {X:Cx} {pins:List (Addr×Obj)} {σ:St} {H:Hp} {s:Shared} {h':Heap}
theorem Inv.turnedL {t':Nat} {ch:List Addr} (I:Inv X pins σ H s) (k:∀b o,b∉ch→s.heap.get? b=some o→h'.get? b=some o) (hf:∀b∈ch,FpOk X pins H b):Inv X pins σ H { s with heap:=h',toks:=t' }:=by
 have nit:∀b u,H b=some u→b∉ch:=λb u e z=>by
  have q:=(hf b z).1
  rw[q] at e;cases e
 refine I.step (g':=s.gens) (d':=s.drawn) (ch:=ch) (λb hb=>⟨(hf b hb).2.2.2.1,(hf b hb).2.1,(hf b hb).2.2.2.2.1,(hf b hb).2.2.2.2.2⟩) (λb o _ _ hc e _=>k b o hc e) (λb o _ _ hc e _=>⟨o.slots,k b o hc e⟩)
  (λ_ _ _ _ n=>n) (λb o hc e=>⟨o,k b o hc e⟩) (λ_ _ e=>e) (λ_ _ _ e=>e) (λb ps e=>⟨#[],by rw[e];simp⟩) (λm hm=>?_) (λb u e=>?_) I.bare
 ·obtain⟨o,es,ep,ho,r⟩:=hm
  exact⟨o,es,ep,k _ o (λz=>(hf _ z).2.1 rfl) ho,r⟩
 ·refine(I.hok b u e).stay (λc v hc q=>k c v ?_ q) (λ_ q=>q) λ_ _ q=>q
  rcases hc with z|z
  ·rw[z];exact nit b u e
  ·exact nit c _ z
theorem Inv.turnedNew {t':Nat} {ch:List Addr} {T:Addr} {ob:HO} (I:Inv X pins σ H s) (k:∀b o,b∉ch→s.heap.get? b=some o→h'.get? b=some o) (hf:∀b∈ch,FpOk X pins H b) (hT:s.heap.objs.size≤T)
  (new:ObjOk X.prog X.w (upd H T ob) h' T ob):Inv X pins σ (upd H T ob) { s with heap:=h',toks:=t' }:=by
 have hn:H T=none:=I.hok.fresh hT
 have nit:∀b u,H b=some u→b∉ch:=λb u e z=>by
  have q:=(hf b z).1
  rw[q] at e;cases e
 refine I.step (g':=s.gens) (d':=s.drawn) (ch:=ch) (λb hb=>⟨(hf b hb).2.2.2.1,(hf b hb).2.1,(hf b hb).2.2.2.2.1,(hf b hb).2.2.2.2.2⟩) (λb o _ _ hc e _=>k b o hc e) (λb o _ _ hc e _=>⟨o.slots,k b o hc e⟩)
  (λb o _ e n=>?_) (λb o hc e=>⟨o,k b o hc e⟩) (λb xs e=>?_) (λb o u e=>?_) (λb ps e=>⟨#[],?_⟩) (λm hm=>?_) (λb u e=>?_) I.bare
 ·rw[za6 (Nat.ne_of_lt (Nat.lt_of_lt_of_le (Heap.lt_size e) hT))];exact n
 ·rw[za6 (za7 e hn)];exact e
 ·rw[za6 (za7 e hn)];exact e
 ·rw[za6 (za7 e hn),e];simp
 ·obtain⟨o,es,ep,ho,r⟩:=hm
  exact⟨o,es,ep,k _ o (λz=>(hf _ z).2.1 rfl) ho,r⟩
 ·by_cases hb:b=T
  ·subst hb
   rw[za1] at e
   cases e
   exact new
  ·rw[za6 hb] at e
   refine(I.hok b u e).stay (λc v hc q=>k c v ?_ q) (λc q=>by rw[za6 (za7 q hn)];exact q) λc xs q=>by rw[za6 (za7 q hn)];exact q
   rcases hc with z|z
   ·rw[z];exact nit b u e
   ·exact nit c _ z
theorem Inv.lock {d:Addr} {u:HO} (I:Inv X pins σ H s) (h:H d=some u) (mu:Mut (some u)):∃od,Inv X pins σ (upd H d (.frz od u)) s:=by
 have x:=I.hok d u h
 have ex:∃od,s.heap.get? d=some od:=by
  cases u with
  | lst xs=>obtain⟨_,_,_,_,e⟩:=x;exact⟨_,e⟩
  | dK kvs=>obtain⟨_,_,_,_,o,_,_,e,_⟩:=x;exact⟨o,e⟩
  | dT kvs=>obtain⟨_,_,_,_,o,_,_,e,_⟩:=x;exact⟨o,e⟩
  | set S n=>obtain⟨o,_,_,_,e,_⟩:=x;exact⟨o,e⟩
  | ins C dx fs=>obtain⟨_,_,_,e,_⟩:=x;exact⟨_,e⟩
  | ext φ=>obtain⟨_,⟨_,e⟩,_⟩:=x;exact⟨_,e⟩
  | _=>exact False.elim mu
 obtain⟨od,e⟩:=ex
 have new:ObjOk X.prog X.w (upd H d (.frz od u)) s.heap d (.frz od u):=by
  refine⟨e,x.stay (λb v _ q=>q) (λb q=>?_) λb xs q=>?_⟩
  ·rw[za6 (λz=>by rw[z,h] at q;cases q;exact mu)];exact q
  ·rw[za6 (λz=>by rw[z,h] at q;cases q;exact mu)];exact q
 exact⟨od,I.write (x:=d) (e:=d) (t':=s.toks) (h':=s.heap) (by rw[h];exact mu) (.inl rfl) (λb v _ q=>q) ⟨od,e⟩ new⟩
theorem Inv.nofrz {d:Addr} {u:HO} (I:Inv X pins σ H s) (h:H d=some u) (mu:Mut (some u)):∀o' u',X.H_0 d≠some (.frz o' u'):=λo' u' e=>by
 have q:=I.base.frzs d o' u' e
 rw[h] at q
 cases q
 exact mu
theorem Inv.unlock {d:Addr} {od:Obj} {u:HO} (I:Inv X pins σ H s) (h:H d=some (.frz od u)) (hn:∀o' u',X.H_0 d≠some (.frz o' u')):Inv X pins σ (upd H d u) s:=by
 have neH:∀b o,H b=some o→(∀o' u',o≠.frz o' u')→b≠d:=λb o e hne z=>by
  rw[z,h] at e
  cases e
  exact hne _ _ rfl
 have neN:∀b,H b=none→b≠d:=λb e z=>by rw[z,h] at e;cases e
 refine⟨I.ok,I.os,I.bare,⟨I.base.keep,I.base.slot,λb o e n hx=>?_,I.base.there,λb xs e=>?_,λb o x e=>?_,λb ps e=>?_⟩,I.loc,I.cell,?_,λx c e=>?_,λp hp=>?_,λb o e=>?_,I.len⟩
 ·rw[za6 (neN b (I.base.free b o e n hx))];exact I.base.free b o e n hx
 ·have q:=I.base.tups b xs e
  rw[za6 (neH b _ q (λ_ _ z=>nomatch z))];exact q
 ·have q:=I.base.frzs b o x e
  rw[za6 (λz=>by rw[z] at e;exact hn _ _ e)];exact q
 ·obtain⟨m,q⟩:=I.base.tbls b ps e
  exact⟨m,by rw[za6 (neH b _ q (λ_ _ z=>nomatch z))];exact q⟩
 ·rw[za6 (neN _ I.free)];exact I.free
 ·rw[za6 (neN c (I.freeC x c e))];exact I.freeC x c e
 ·obtain⟨e,n,r⟩:=I.pin p hp
  exact⟨e,by rw[za6 (neN _ n)];exact n,r⟩
 ·by_cases hb:b=d
  ·rw[hb,za1] at e
   cases e
   rw[hb]
   obtain⟨_,x⟩:=I.hok d _ h
   exact x.stay (λc v _ q=>q) (λc q=>by rw[za6 (neH c _ q (λ_ _ z=>nomatch z))];exact q) λc xs q=>by rw[za6 (neH c _ q (λ_ _ z=>nomatch z))];exact q
  ·rw[za6 hb] at e
   exact(I.hok b o e).stay (λc v _ q=>q) (λc q=>by rw[za6 (neH c _ q (λ_ _ z=>nomatch z))];exact q) λc xs q=>by rw[za6 (neH c _ q (λ_ _ z=>nomatch z))];exact q
end
def tLock (t:TS):TS:=λD σ H=>∃d u,H d=some u∧Mut (some u)∧∀od,t ⟨λσ' H'=>H' d=some (.frz od u)∧D.nx σ' (upd H' d u),λv H'=>H' d=some (.frz od u)∧D.rt v (upd H' d u),λσ' H'=>H' d=some (.frz od u)∧D.bk σ' (upd H' d u),λσ' H'=>H' d=some (.frz od u)∧D.ct σ' (upd H' d u)⟩ σ (upd H d (.frz od u))
def tLockE (t:TE):TE:=λσ H Q=>∃d u,H d=some u∧Mut (some u)∧∀od,t σ (upd H d (.frz od u)) λv H'=>H' d=some (.frz od u)∧Q v (upd H' d u)
section
variable {X:Cx}
theorem zqj {st:Stmt} {t:TS} (h:PS X st t):PS X st (tLock t):=by
 intro pins s σ H D I hw
 obtain⟨d,u,hd,mu,hw⟩:=hw
 obtain⟨od,I1⟩:=I.lock hd mu
 refine thn (h pins s σ _ _ I1 (hw od)) λf s1 q=>?_
 cases f with
 | next=>obtain⟨σ',H',I2,e,q⟩:=q;exact⟨σ',_,I2.unlock e (I.nofrz hd mu),q⟩
 | brk=>obtain⟨σ',H',I2,e,q⟩:=q;exact⟨σ',_,I2.unlock e (I.nofrz hd mu),q⟩
 | cont=>obtain⟨σ',H',I2,e,q⟩:=q;exact⟨σ',_,I2.unlock e (I.nofrz hd mu),q⟩
 | ret v=>obtain⟨x,σ',H',I2,r,e,q⟩:=q;exact⟨x,σ',_,I2.unlock e (I.nofrz hd mu),r,q⟩
theorem zqn {e:Expr} {t:TE} (h:PE X e t):PE X e (tLockE t):=by
 intro pins s σ H Q I hw
 obtain⟨d,u,hd,mu,hw⟩:=hw
 obtain⟨od,I1⟩:=I.lock hd mu
 refine thn (h pins s σ _ _ I1 (hw od)) λv s1 ⟨x,H1,I2,r,e2,q⟩=>?_
 exact⟨x,_,I2.unlock e2 (I.nofrz hd mu),r,q⟩
theorem zqZ {tg:Expr} {pins:List (Addr×Obj)} {σ:St} {H:Hp} {s:Shared} {R:It→Hp→Prop} {J:It} {tn:Nat→Heap→Prop} {tk:Nat} (I:Inv X pins σ H s) (o:Obj)
  (T:Turn X.prog X.w X.K tg J [s.heap.objs.size] s.heap.objs.size tn) (st:tn 0 (s.heap.push o)) (q:R J H):PIE X pins σ tg R (.ref s.heap.objs.size) { s with heap:=s.heap.push o,toks:=tk }:=by
 refine⟨s.heap.objs.size,[s.heap.objs.size],tn,J,H,rfl,I.kept λb ob e=>Heap.get?_push_of_some _ e,T,st,λb hb=>?_,q⟩
 have e:b=s.heap.objs.size:=by simpa using hb
 subst e
 exact I.fpOk (Nat.le_refl _) (I.hok.fresh (Nat.le_refl _))
end
def Itc (lo c:Int) (n:Nat):It:=⟨λi _=>i < n,λi H x H'=>H'=H∧x=.int (lo+(i:Nat) * c),λi _=>n≤i⟩
theorem zlm {P:Program} {w:World} {K:PySem.W.Frag} {tg:Expr} (it:Addr) (lo c:Int) (n:Nat):Turn P w K tg (Itc lo c n) [it] it (λi h=>IsRangeIter h it (lo+(i:Nat) * c) ((n:Int) - (i:Nat)) c) where
 mem:=by simp
 obj:=λi h st b hb=>by
  have e:b=it:=by simpa using hb
  subst e
  exact⟨_,st,λv z=>nomatch z⟩
 keep:=λi h h' st k=>k it (by simp) _ st
 item:=by
  intro X hP hw hK hc i pins s σ H E I hf st hg
  subst hP hw hK
  obtain⟨f0,f1,f2,f3,f4,f5⟩:=hf it (by simp)
  have W:=Walks.range (prog:=X.prog) (w:=X.w) (I.ok.hd hc) it lo c n
  refine W.item i s _ _ hg st λv h' tk hv st' kk=>?_
  obtain⟨t,rfl⟩:=hv
  have I1:Inv X pins σ H { s with heap:=h',toks:=tk }:=I.turned (λb o hb e=>kk b o (by simpa using hb) e) f0 f1 f3 f4 f5
  exact⟨_,rfl,go_of (s:={ s with heap:=h',toks:=tk }) (n:="range_iterator") st' rfl rfl (by decide) ⟨.int (lo+(i:Nat) * c),H,I1,⟨t,rfl⟩,⟨rfl,rfl⟩,st',λb hb=>(hf b hb).1⟩⟩
 done:=by
  intro X hP hw hK hc i pins s σ H E I hf st hg
  subst hP hw hK
  obtain⟨f0,f1,f2,f3,f4,f5⟩:=hf it (by simp)
  exact wpAny_pyNext_range_end (I.ok.hd hc) st (by have:n≤i:=hg;omega) λh' eb=>⟨rfl,I.turned (t':=s.toks) (λb o hb e=>eb b o hb e) f0 f1 f3 f4 f5⟩
 self:=λA i s Q E st h=>wpAny_pyIter_rangeiter st h
def RgC (i j c:Int) (n:Nat):Prop:=c≠0∧c.natAbs < 1073741824∧Builtin.Range.small i j c=true∧Builtin.Range.rangeSize i j c=n
theorem RgC.neg {i j:Int} (ha:-(2 ^ 62)≤i) (ha':i < 2 ^ 62) (hb:-(2 ^ 62)≤j) (hb':j < 2 ^ 62):RgC i j (-1) (i - j).toNat :=
 ⟨by decide,by decide,PySem.W.small_down ha ha' hb hb',PySem.W.rangeSize_downNat i j⟩
def iRng3 (ta:TA):TI:=λσ H R=>ta σ H λvs H1=>∃(i j c:Int) (n:Nat),vs=[.int i,.int j,.int c]∧RgC i j c n∧R (Itc i c n) H1
section
variable {X:Cx} {tg:Expr}
theorem znM {a b c:Expr} {ta:TA} {p pos:Pos} (hg:Gl X "range") (hm:X.mg "range"=none) (ha:PA X [a,b,c] ta)
  (hs:starEach [a,b,c] X.env=(false,eval a X.env)::starEach [b,c] X.env:=by rfl) (hpl:(backTo pos (starEach [b,c] X.env)).any (·.1)=false:=by rfl) :
  PI X tg (.Call (.Name "range" p) [a,b,c] [] pos) (iRng3 ta):=by
 intro pins s σ H R I h
 refine Call_ (zgM I hg hm boot_range (PyProof.Rows.callWith_type1 (thn (ha pos pins s σ H _ I h) λus s1 ⟨vs,H1,I1,r1,q1⟩=>?_) hs hpl))
 obtain⟨i,j,k,n,e,⟨c0,c1,c2,c3⟩,q⟩:=q1
 subst e
 cases r1 with
 | cons r rr =>
  cases rr with
  | cons r' rr =>
   cases rr with
   | cons r'' rr =>
    cases rr
    obtain⟨t,rfl⟩:=r
    obtain⟨t',rfl⟩:=r'
    obtain⟨t'',rfl⟩:=r''
    refine call_range_3 c0 ?_ (.inl (PyProof.noPylong_small c1))
    refine wpAny_pyIter_range (IsRange.new ..) c2 ?_
    have I2:Inv X pins σ H1 { s1 with heap:=s1.heap.push { cls:=.type "range",data:=.fields #[.int i t,.int j t',.int k t''] } }:=I1.kept (t':=s1.toks) λb o e=>Heap.get?_push_of_some _ e
    refine zqZ (tk:=s1.toks) I2 _ (zlm _ i k n) ?_ q
    have e1:i+((0:Nat):Int) * k=i:=by simp
    have e2:(n:Int) - ((0:Nat):Int)=Builtin.Range.rangeSize i j k:=by rw[c3];simp
    show IsRangeIter _ _ (i+((0:Nat):Int) * k) ((n:Int) - ((0:Nat):Int)) k
    rw[e1,e2]
    exact Heap.get?_push_size _ rfl
end
theorem zn7 {lo c:Int} {n:Nat} {g:TG} {tb:TS} {D:Ends} {σ:St} {H:Hp} (Pv:Nat→St→Hp→Prop) (h0:Pv 0 σ H)
  (hs:∀i σ H,i < n→Pv i σ H→g (.int (lo+(i:Nat) * c)) σ H λσ2 H2=>tb { D with nx:=Pv (i+1),ct:=Pv (i+1),bk:=D.nx } σ2 H2) (hd:∀σ H,Pv n σ H→D.nx σ H) :
  ∃W:Nat→Nat→St→Hp→Prop,(∃m,W 0 m σ H)∧∀i m σ H,W i m σ H→
   ((Itc lo c n).stop i H∧D.nx σ H)∨((Itc lo c n).go i H∧∃N:St→Hp→Prop,(∀σ' H',N σ' H'→∃m',m' < m∧W (i+1) m' σ' H')∧∀x H',(Itc lo c n).yld i H x H'→g x σ H' λσ2 H2=>tb { D with nx:=N,ct:=N,bk:=D.nx } σ2 H2):=by
 refine⟨λi m σ H=>m=n - i∧i≤n∧Pv i σ H,⟨n,by simp,Nat.zero_le _,h0⟩,?_⟩
 rintro i m σ H ⟨rfl,hi,p⟩
 by_cases hlt:i < n
 ·refine .inr ⟨hlt,Pv (i+1),λσ' H' p'=>⟨n - (i+1),by omega,rfl,hlt,p'⟩,λx H' y=>?_⟩
  obtain⟨e,y⟩:=y
  subst e y
  exact hs i σ _ hlt p
 ·have e:i=n:=by omega
  subst e
  exact .inl ⟨Nat.le_refl _,hd σ H p⟩
section
variable {X:Cx} {tg:Expr}
end
section
variable {prog:Program} {w:World} {A:Around} {E:Value→Shared→Prop} {s:Shared}
theorem zod {d:Addr} {o:Obj} {es:Array DictEntry} {ep:Nat} {Q:Value→Shared→Prop} (hd:(d == sysModules)=false) (ho:s.heap.get? d=some o) (hc:o.ExactDict) (hdat:o.data=.dict es ep)
  (hQ:Q (.ref s.heap.objs.size) { s with heap:=s.heap.push { cls:=.type "dict_keyiterator",data:=.fields #[.ref d,.int 0 0,.int es.size 0,.int ep 0] } }) :
  wpAny (model prog w) A (pyIter (.ref d)) Q E s:=by
 have hT:s.TypeIs (.ref d) "dict":=⟨o,ho,hc.1⟩
 refine wpAny_pyIter_slot hT F.slot_dict_iter (wpAny_call_entry F.slot_dict_iter hT F.entry_dict_iter ?_ (F.args_dict_iter_1 _))
 unfold Builtin.«dict.__iter__»
 refine wpAny_bind ?_
 unfold Builtin.Dict.dictSlotNone
 refine wpAny_bind (wpAny_notOrdered_dict hT ?_)
 show wpAny _ _ (pure (Value.ref d)) _ _ s
 refine wpAny_pure ?_
 show wpAny _ _ (Builtin.Dict.showsAll d >>= _) _ _ s
 unfold Builtin.Dict.showsAll
 rw[if_neg (by rw[hd];exact Bool.false_ne_true)]
 refine wpAny_bind (wpAny_pure ?_)
 refine wpAny_bind (wpAny_dictEntries ho hdat ?_)
 refine wpAny_bind (wpAny_dictEpoch ho hdat ?_)
 refine wpAny_bind (wpAny_newObj_type (wpAny_pure ⟨_,rfl,"dict_keyiterator",_,⟨_,Heap.get?_push_size _ rfl,rfl⟩,F.slot_dict_keyiterator_next.lookup,?_⟩))
 simpa[rawInt] using hQ
end
theorem zr5 {κ:Type} {kvs:List (κ×V)} {vs:List (κ×Value)} (h:KV kvs vs):∀{i:Nat} {k:κ} {v:V},kvs[i]?=some (k,v)→∃u,vs[i]?=some (k,u)∧RelV v u:=by
 unfold KV at h
 induction h with
 | nil=>intro i k v e;simp at e
 | @cons a b l₁ l₂ r t ih =>
  intro i k v e
  cases i with
  | zero =>
   simp only[List.getElem?_cons_zero,Option.some.injEq] at e
   subst e
   refine⟨b.2,?_,r.2⟩
   simp only[List.getElem?_cons_zero]
   exact congrArg some (Prod.ext r.1.symm rfl)
  | succ j =>
   simp only[List.getElem?_cons_succ] at e ⊢
   exact ih e
theorem zmi {k:Key} {u:Value} (h:keyIs k u=true):RelV (kV k) u:=by
 rcases zb1 h with ⟨i,t,rfl,rfl⟩|⟨x,t,rfl,rfl⟩
 ·exact⟨t,rfl⟩
 ·exact⟨t,rfl⟩
section
variable {X:Cx} {pins:List (Addr×Obj)} {σ:St} {H:Hp} {s:Shared} {d:Addr} {o:Obj}
theorem Inv.frzK {kvs:List (Key×V)} (I:Inv X pins σ H s) (h:H d=some (.frz o (.dK kvs))) :
  (d == sysModules)=false∧s.heap.get? d=some o∧o.ExactDict∧∃(es:Array DictEntry) (ep:Nat) (vs:List (Key×Value)),o.data=.dict es ep∧es.size=kvs.length∧KV kvs vs∧s.heap.DictAt (mixKind X.prog X.w) d vs ep:=by
 obtain⟨hd,z,hs,vs,kv,o',es,ep,ho,hx,hdt,r⟩:=I.hok d _ h
 rw[hd] at ho
 cases ho
 refine⟨hs,hd,hx,es,ep,vs,hdt,?_,kv,o,es,hd,hx,hdt,r⟩
 have l1:=r.2.1.length
 have l2:kvs.length=vs.length:=Paired.length kv
 rw[Array.length_toList] at l1
 omega
end
theorem zoz {o:Obj} {es es':Array DictEntry} {ep ep':Nat} (h:o.data=.dict es ep) (h':o.data=.dict es' ep'):es'=es∧ep'=ep:=by
 rw[h] at h'
 cases h'
 exact⟨rfl,rfl⟩
section
variable {P:Program} {w:World} {K:PySem.W.Frag} {tg:Expr} {d:Addr} {o:Obj} {es:Array DictEntry} {ep:Nat}
end
section
variable {X:Cx} {tg e:Expr} {td:TE} {apos cpos:Pos}
end
theorem zl7:bootBuiltins "zip"=some (.type "zip"):=by decide +kernel
def Itz (K:PySem.W.Frag) (a b:Addr):It :=
 ⟨λi H=>∃(xs ys:List V) (x y:V),SqL K H a xs∧SqL K H b ys∧xs[i]?=some x∧ys[i]?=some y,
  λi H v H'=>∃T x y,v=.ref T∧H T=none∧H'=upd H T (.tup [x,y])∧(∀xs,SqL K H a xs→xs[i]?=some x)∧∀ys,SqL K H b ys→ys[i]?=some y,
  λi H=>∃xs ys:List V,SqL K H a xs∧SqL K H b ys∧(xs.length≤i∨ys.length≤i)⟩
theorem zp6 {P:Program} {w:World} {K:PySem.W.Frag} {elts:List Expr} {kk:Nat} {tpos:Pos} {a b z TI TO i1 i2:Addr} (D:ZipApart z TI TO i1 i2 a b) :
  Turn P w K (.Tuple elts kk tpos) (Itz K a b) [z,TI,TO,i1,i2] z (λi h=>IsZip h z TI TO .none∧IsPair h TI (.ref i1) (.ref i2)∧(∃x y,IsPair h TO x y)∧h.IsListIter i1 a i∧h.IsListIter i2 b i) where
 mem:=by simp
 obj:=λi h st c hc=>by
  obtain⟨hz,hTI,⟨x,y,hTO⟩,⟨o1,e1,_,d1⟩,⟨o2,e2,_,d2⟩⟩:=st
  have e':c=z∨c=TI∨c=TO∨c=i1∨c=i2:=by simpa using hc
  rcases e' with q|q|q|q|q
  ·rw[q];exact⟨_,hz,λv q=>nomatch q⟩
  ·rw[q];exact⟨_,hTI,λv q=>nomatch q⟩
  ·rw[q];exact⟨_,hTO,λv q=>nomatch q⟩
  ·rw[q];exact⟨o1,e1,λv q=>by rw[d1] at q;cases q⟩
  ·rw[q];exact⟨o2,e2,λv q=>by rw[d2] at q;cases q⟩
 keep:=λi h h' st k=>by
  obtain⟨hz,hTI,⟨x,y,hTO⟩,h1,h2⟩:=st
  exact⟨k z (by simp) _ hz,k TI (by simp) _ hTI,⟨x,y,k TO (by simp) _ hTO⟩,h1.at λo q=>k i1 (by simp) o q,h2.at λo q=>k i2 (by simp) o q⟩
 item:=by
  intro X hP hw hK hc i pins s σ H E I hf st hg
  subst hP hw hK
  obtain⟨hz,hTI,⟨x0,y0,hTO⟩,h1,h2⟩:=st
  obtain⟨xs,ys,x,y,hqx,hqy,hx,hy⟩:=hg
  obtain⟨its,rv,p,_⟩:=I.list hqx
  obtain⟨its2,rv2,p2,_⟩:=I.list hqy
  obtain⟨u,hu,ru⟩:=rv.get hx
  obtain⟨u2,hu2,ru2⟩:=rv2.get hy
  have hzl:z < s.heap.objs.size:=Heap.lt_size hz
  refine wpAny_pyNext_zip_item D hz hTI hTO h1 h2 p.isList p2.isList (x:=u) (y:=u2) (by simpa using hu) (by simpa using hu2) λh' z' TO' h1' h2' hT hsz hk=>?_
  refine⟨_,rfl,wpAny_letOwnedTupleGo_zip (s:={ s with heap:=h' }) z' λh'' z'' sb=>?_⟩
  have hT2:h''.get? s.heap.objs.size=some { cls:=.type "tuple",data:=.seq #[u,u2] }:=(sb.2 _ (Nat.ne_of_gt hzl)).trans hT
  have new:ObjOk X.prog X.w (upd H s.heap.objs.size (.tup [x,y])) h'' s.heap.objs.size (.tup [x,y]) :=
   ⟨by show 2≤sizeLine;decide,[u,u2],.cons ru (.cons ru2 .nil),⟨_,hT2,rfl,_,rfl⟩⟩
  have I1:Inv X pins σ (upd H s.heap.objs.size (.tup [x,y])) { s with heap:=h'' } :=
   I.turnedNew (t':=s.toks) (ch:=[z,TI,TO,i1,i2]) (λc o hb q=>(sb.2 c (λq'=>hb (by simp[q']))).trans (hk c o (λq'=>hb (by simp[q'])) (λq'=>hb (by simp[q'])) (λq'=>hb (by simp[q'])) (λq'=>hb (by simp[q'])) q)) hf (Nat.le_refl _) new
  refine⟨.ref s.heap.objs.size,_,I1,rfl,⟨_,x,y,rfl,I.hok.fresh (Nat.le_refl _),rfl,λl hl=>by rw[I.zjM hl hqx];exact hx,λl hl=>by rw[I.zjM hl hqy];exact hy⟩,⟨z'',?_,⟨u,u2,?_⟩,?_,?_⟩,λc hcm=>?_⟩
  ·exact(sb.2 _ D.TIz).trans (hk _ _ D.TIz D.TITO D.TIi1 D.TIi2 hTI)
  ·exact(sb.2 _ D.TOz).trans TO'
  ·exact h1'.at λo q=>(sb.2 _ D.i1z).trans q
  ·exact h2'.at λo q=>(sb.2 _ D.i2z).trans q
  ·have hlt:c < s.heap.objs.size:=by
    have e':c=z∨c=TI∨c=TO∨c=i1∨c=i2:=by simpa using hcm
    rcases e' with q|q|q|q|q
    ·rw[q];exact hzl
    ·rw[q];exact Heap.lt_size hTI
    ·rw[q];exact Heap.lt_size hTO
    ·rw[q];obtain⟨_,e1,_⟩:=h1;exact Heap.lt_size e1
    ·rw[q];obtain⟨_,e2,_⟩:=h2;exact Heap.lt_size e2
   rw[za6 (Nat.ne_of_lt hlt)]
   exact(hf c hcm).1
 done:=by
  intro X hP hw hK hc i pins s σ H E I hf st hg
  subst hP hw hK
  obtain⟨hz,hTI,⟨x0,y0,hTO⟩,h1,h2⟩:=st
  obtain⟨xs,ys,hqx,hqy,hend⟩:=hg
  obtain⟨its,rv,p,_⟩:=I.list hqx
  obtain⟨its2,rv2,p2,_⟩:=I.list hqy
  have l1:=rv.length
  have l2:=rv2.length
  have he:its.toArray[i]?=none∨its2.toArray[i]?=none:=by
   rcases hend with q|q
   ·exact .inl (by simp;omega)
   ·exact .inr (by simp;omega)
  exact wpAny_pyNext_zip_end (I.ok.hd hc) D hz hTI hTO h1 h2 p.isList p2.isList he λh' hk=>⟨rfl,I.turnedL (t':=s.toks) (ch:=[z,TI,TO,i1,i2]) (λc o hb q =>
   hk c o (λq'=>hb (by simp[q'])) (λq'=>hb (by simp[q'])) (λq'=>hb (by simp[q'])) (λq'=>hb (by simp[q'])) q) hf⟩
 self:=λA i s Q E st h=>wpAny_pyIter_zip st.1 h
def iZip (K:PySem.W.Frag) (ta:TA):TI:=λσ H R=>ta σ H λvs H1=>∃a b xs ys,vs=[.ref a,.ref b]∧SqL K H1 a xs∧SqL K H1 b ys∧R (Itz K a b) H1
theorem zpY {X:Cx} {e e2:Expr} {ta:TA} {p pos tpos:Pos} {elts:List Expr} {kk:Nat} (hg:Gl X "zip") (hm:X.mg "zip"=none) (ha:PA X [e,e2] ta)
  (hs:starEach [e,e2] X.env=(false,eval e X.env)::starEach [e2] X.env:=by rfl) (hpl:(backTo pos (starEach [e2] X.env)).any (·.1)=false:=by rfl) :
  PI X (.Tuple elts kk tpos) (.Call (.Name "zip" p) [e,e2] [] pos) (iZip X.K ta):=by
 intro pins s σ H R I h
 refine Call_ (zgM I hg hm zl7 (PyProof.Rows.callWith_type1 (thn (ha pos pins s σ H _ I h) λus s1 ⟨vs,H1,I1,r1,q1⟩=>?_) hs hpl))
 obtain⟨a,b,xs,ys,ex,hqx,hqy,q⟩:=q1
 subst ex
 cases r1 with
 | cons r rr =>
  cases rr with
  | cons r' rr =>
   cases rr
   cases r
   cases r'
   obtain⟨its,rv,p1,_⟩:=I1.list hqx
   obtain⟨its2,rv2,p2,_⟩:=I1.list hqy
   have la:a < s1.heap.objs.size:=p1.lt
   have lb:b < s1.heap.objs.size:=p2.lt
   refine call_zip_2 p1.isList p2.isList λh' hz hTI hTO h1 h2 hsz hk=>wpAny_pyIter_zip hz ?_
   have I2:Inv X pins σ H1 { s1 with heap:=h' }:=I1.kept (t':=s1.toks) hk
   refine⟨s1.heap.objs.size+4,[s1.heap.objs.size+4,s1.heap.objs.size+2,s1.heap.objs.size+3,s1.heap.objs.size,s1.heap.objs.size+1],_,_,H1,rfl,I2,zp6 (PySem.W.ktu_apart s1.heap.objs.size a b la lb),⟨hz,hTI,⟨_,_,hTO⟩,h1,h2⟩,λc hcm=>?_,q⟩
   have e':c=s1.heap.objs.size+4∨c=s1.heap.objs.size+2∨c=s1.heap.objs.size+3∨c=s1.heap.objs.size∨c=s1.heap.objs.size+1:=by simpa using hcm
   have hle:s1.heap.objs.size≤c:=by
    rcases e' with z|z|z|z|z
    ·rw[z];exact Nat.le_add_right _ _
    ·rw[z];exact Nat.le_add_right _ _
    ·rw[z];exact Nat.le_add_right _ _
    ·rw[z];exact Nat.le_refl _
    ·rw[z];exact Nat.le_add_right _ _
   exact I1.fpOk hle (I1.hok.fresh hle)
end L2
section 
namespace Bits
open PySem PyProof.Rows
end Bits
end 
section 
namespace TL
open PySem PySem.Builtin PySem.Builtin.Str PySem.StrLaws
end TL
end 
namespace L2
open PySem PySem.Spec PyProof.Rows
section
variable {X:Cx} {pins:List (Addr×Obj)} {σ:St} {H:Hp} {s:Shared} {Q:VK}
end
section
variable {X:Cx}
end
section
variable {X:Cx} {o e:Expr} {to te:TE}
end
end L2
namespace L2
open PySem PySem.Spec PyProof.Rows
section
variable {X:Cx}
end
end L2
namespace Att
open PySem PySem.W PySem.Calls PyProof.Rows
section
variable {prog:Program} {w:World} {A:Around} {E:Value→Shared→Prop} {s:Shared} {K:Frag}
end
end Att
namespace L2
open PySem PySem.Spec PyProof.Rows
end L2
namespace L2
open PySem PySem.Spec PyProof.Rows
end L2
/- THE LAST THEOREM (shape;LID,My.* are yours):
  My.Adr: a structure of the addresses that your layer names (classes,functions);My.Txt K t: a structure (Prop) of the equations over K;
  My.znw:{K} {implicit addresses ..} (e1:nsIn K mainGlobals "law"=some (some (.ref f))) (e2:K.lookup f=some ⟨oc,od,.func (fnOf "law" "law" params body scope dV kV doc pm an cdv ct),sl⟩) (e3:codeIn K cdv "law"=true) ..:∃t,My.Txt K t
set_option maxRecDepth 100000 in
set_option maxHeartbeats 0 in
theorem PySem.Challenge.cw_LID_holds : PySem.Challenge.rw_LID.Holds := by
 w_on;o_law;k_head;(case hw=>w_witness2)
 k_fill
 refine L2.zrh (l:=PySem.Challenge.rw_LID) (n:=63) (k:=40) (x:="script") (CX:=λw=>..) (sp:=λ_=>My.zri) rfl (by decide) rfl ⟨rfl,by decide,by decide⟩ (λw h Y=>PySem.W.kIn_of Y) ?F ?S ?C
 case F =>
  intro w mg fa h KX G hmg
  have T:∃t,My.Txt (L2.KOf KX) t:=by
   dsimp only[L2.KOf]
   refine' My.znw ?e1 ?e2 ?e3 ..
   (case e1=>PySem.W.k_is)
   (case e2=>PySem.W.k_is)
   ..
  obtain⟨t,T⟩:=T
  have e0:=hmg.symm.trans (PySem.W.mg_of KX G T.law)
  cases e0
  exact⟨_,λs u=>.of_eq rfl,λbase kb nb=>My.law_fn T kb nb⟩
 case S=>exact λw H a ns hl hO hS=>..
 case C=>exact ..
(the tactic k_is has no namespace: write k_is) -/
namespace L2
open PySem PySem.Spec PyProof.Rows
def inClass (s:Stmt) (j:Nat):Stmt:=match s with
 | .ClassDef _ _ _ body _ _ _ _ _ _ _=>body.getD j (.Pass ⟨0,0,0,0⟩)
 | _=>.Pass ⟨0,0,0,0⟩
def defArgs (s:Stmt):Arguments:=match s with
 | .FunctionDef _ a _ _ _ _ _ _ _ _=>a
 | _=>{ posonlyargs:=[],args:=[],vararg:=none,kwonlyargs:=[],kw_defaults:=[],kwarg:=none,defaults:=[] }
def defBody (s:Stmt):List Stmt:=match s with
 | .FunctionDef _ _ b _ _ _ _ _ _ _=>b
 | _=>[]
def defScope (s:Stmt):Scope:=match s with
 | .FunctionDef _ _ _ _ _ _ sc _ _ _=>sc
 | _=>{ kind:=.function,names:=[],isGenerator:=false,isCoroutine:=false }
abbrev E0:XK:=λ_ _ _=>False
structure Fun (K:PySem.W.Frag) (x qual:Str) (st:Stmt) (f:Addr) (fd:FuncData):Prop where
 ex:∃(oc:Value) (od:Option Addr) (kV doc pm:Value) (an:Option Addr) (cdv ct:Value) (osl:Array (Option Value)),
  fd=PySem.W.fnOf x qual (defArgs st) (defBody st) (defScope st) .none kV doc pm an cdv ct∧K.lookup f=some ⟨oc,od,.func fd,osl⟩∧PySem.W.codeIn K cdv qual=true
 kp:PySem.W.keepIn K (.ref f)=true
section
variable {P:Program} {w:World} {K:PySem.W.Frag} {mg:Str→Option Value} {base:Heap}
theorem Fun.binds {x qual:Str} {st:Stmt} {f:Addr} {fd:FuncData} {ps:List Str} (F:Fun K x qual st f fd)
  (h:∀(kV doc pm:Value) (an:Option Addr) (cdv ct:Value) (us:List Value),us.length=ps.length→bindArgs (PySem.W.fnOf x qual (defArgs st) (defBody st) (defScope st) .none kV doc pm an cdv ct) ⟨us,[]⟩=pure (ps.zip us)):Binds K fd ps []:=by
 obtain⟨oc,od,kV,doc,pm,an,cdv,ct,osl,rfl,lk,hcd⟩:=F.ex
 exact .all (h kV doc pm an cdv ct)
theorem zi2 {x qual:Str} {st:Stmt} {f:Addr} {oc:Value} {od an:Option Addr} {osl:Array (Option Value)} {kV doc pm cdv ct:Value} (l:K.lookup f=some ⟨oc,od,.func (PySem.W.fnOf x qual (defArgs st) (defBody st) (defScope st) .none kV doc pm an cdv ct),osl⟩)
  (c:PySem.W.codeIn K cdv qual=true) (k:PySem.W.keepIn K (.ref f)=true):Fun K x qual st f (PySem.W.fnOf x qual (defArgs st) (defBody st) (defScope st) .none kV doc pm an cdv ct):=⟨⟨oc,od,kV,doc,pm,an,cdv,ct,osl,rfl,l,c⟩,k⟩
end
theorem hu_of {A:Around} {k:Nat} (hr:Room k A):A.units+1 < cLine:=Nat.lt_of_le_of_lt (Nat.add_le_add_left (by decide:1≤64) _) hr.units
section
variable {X:Cx}
theorem pv (i:Nat) {x:Str} {pos:Pos} (hN:X.N[i]?=some x:=by rfl) (hv:Vis X.env.scope x:=by first|exact Or.inl rfl|exact Or.inr (Or.inl rfl)|exact Or.inr (Or.inr rfl)) (hd:(x == ("__debug__":Str))=false:=by decide)
  (hcd:(x == ("__classdict__":Str))=false:=by decide):PE X (.Name x pos) (tVar i):=zr0 hN hv hd hcd
theorem zoP:CallR X (.builtin "len") (λxs H Q=>∃a kvs,xs=[V.ref a]∧H a=some (.dK kvs)∧Q (.int kvs.length) H):=by
 intro pins s σ H xs us Q I r h
 obtain⟨a,kvs,rfl,ha,q⟩:=h
 obtain⟨u,rfl,ru⟩:=vals1 r
 cases ru
 exact d_len I (.inl ha) λt s' I'=>⟨.int kvs.length,H,I',⟨t,rfl⟩,q⟩
end
theorem iteF {A B:Prop} (h:B):if false=true then A else B:=by
 rw[if_neg Bool.false_ne_true]
 exact h
theorem iteT {A B:Prop} (h:A):if true=true then A else B:=by
 rw[if_pos rfl]
 exact h
theorem ite2 {c A B:Prop} [Decidable c] (h1:c→A) (h2:¬ c→B):if c then A else B:=by
 by_cases h:c
 ·rw[if_pos h]
  exact h1 h
 ·rw[if_neg h]
  exact h2 h
def Same (H H':Hp):Prop:=∀b o,H b=some o→H' b=some o
theorem Same.refl (H:Hp):Same H H:=λ_ _ h=>h
theorem Same.trans {H H1 H2:Hp} (a:Same H H1) (b:Same H1 H2):Same H H2:=λc o h=>b c o (a c o h)
theorem Same.free {H H':Hp} (e:Same H H') {l:Addr} (h:H' l=Option.none):H l=Option.none:=by
 cases q:H l with
 | none=>rfl
 | some o =>
  rw[e l o q] at h
  cases h
theorem Same.seq {K:PySem.W.Frag} {H H':Hp} {a:Addr} {xs:List V} (e:Same H H') (h:SqL K H a xs):SqL K H' a xs:=by
 rcases h with (h|⟨o,h⟩)|h
 ·exact .inl (.inl (e _ _ h))
 ·exact .inl (.inr ⟨o,e _ _ h⟩)
 ·exact .inr h
section
variable {κ:Type} [DecidableEq κ]
theorem zp4 {kvs:List (κ×V)} {k:κ} (h:valV kvs k=none):¬ k∈kvs.map (·.1):=by
 intro m
 obtain⟨p,hp,e⟩:=List.mem_map.mp m
 have q:(kvs.any λkv=>decide (kv.1=k))=true:=List.any_eq_true.mpr ⟨p,hp,decide_eq_true e⟩
 rw[zdw,h] at q
 exact absurd q (by simp)
theorem zq9 {kvs:List (κ×V)} {k:κ} {v:V} (h:valV kvs k=some v):k∈kvs.map (·.1):=by
 have q:(kvs.any λkv=>decide (kv.1=k))=true:=by
  rw[zdw,h]
  all_goals rfl
 obtain⟨p,hp,e⟩:=List.any_eq_true.mp q
 exact List.mem_map.mpr ⟨p,hp,of_decide_eq_true e⟩
theorem znX:∀{l:List κ} {k:κ},l.Nodup→¬ k∈l→(l++[k]).Nodup
 | [],k,_,_=>by simp
 | a::r,k,h,hk=>by
  obtain⟨h1,h2⟩:=List.nodup_cons.mp h
  show (a::(r++[k])).Nodup
  refine List.nodup_cons.mpr ⟨λm=>?_,znX h2 λm=>hk (List.mem_cons.mpr (Or.inr m))⟩
  rcases List.mem_append.mp m with q|q
  ·exact h1 q
  ·exact hk (List.mem_cons.mpr (Or.inl (List.mem_singleton.mp q).symm))
end
theorem at_of {xs:List V} {z:Int} {j:Nat} {v:V} (e:z=(j:Int)) (h:xs[j]?=some v):atI xs z=some v:=by
 rw[e]
 exact zkb h
theorem nd_ix {α:Type} {l:List α} (hN:l.Nodup) {i j:Nat} {x:α} (a:l[i]?=some x) (b:l[j]?=some x):i=j:=by
 obtain⟨h1,e1⟩:=List.getElem?_eq_some_iff.mp a
 obtain⟨h2,e2⟩:=List.getElem?_eq_some_iff.mp b
 exact(List.getElem_inj hN).mp (e1.trans e2.symm)
end L2
end
section
namespace L2
open PySem PySem.Spec PyProof.Rows
open PySem.W (excIn exmOne)
def Err (K:PySem.W.Frag) (C:Addr):Prop:=excIn K C [.type "Exception",.type "BaseException",.type "object"] "Exception.__new__"=true
structure Flown (P:Program) (w:World) (fr:List Env) (H:Hp) (h:Heap) (H':Hp) (ea C:Addr) (h1:Heap):Prop where
 un:Un (frs fr) [] H H' h h1
 hok:HOk P w H' h1
 fl:∃B a0,Heap.FlyingW B fr ea (.ref C) a0 h1∧(∀b u,H' b=some u→∃ob,h1.get? b=some ob∧B.get? b=some ob)∧
  (∀b o,h.get? b=some o→H b=none→b∉frs fr→B.get? b=some o)∧∀b o,h.get? b=some o→b∉frs fr→∃o',B.get? b=some o'
def CXP (P:Program) (w:World):CXT:=λfr H s E e s'=>∃(ea C:Addr) (H':Hp),e=.ref ea∧s'.os=s.os∧AllBare s'.gens∧Flown P w fr H s.heap H' ea C s'.heap∧E (.ref C) none H'
theorem ObjOk.there {P:Program} {w:World} {H:Hp} {h:Heap} {a:Addr} {o:HO} (x:ObjOk P w H h a o):∃ob,h.get? a=some ob:=by
 cases o with
 | lst xs=>obtain⟨_,_,_,_,e⟩:=x;exact⟨_,e⟩
 | tup xs=>obtain⟨_,_,_,ob,e,_⟩:=x;exact⟨_,e⟩
 | dK kvs=>obtain⟨_,_,_,_,ob,_,_,e,_⟩:=x;exact⟨_,e⟩
 | dT kvs=>obtain⟨_,_,_,_,ob,_,_,e,_⟩:=x;exact⟨_,e⟩
 | set S n=>obtain⟨ob,_,_,_,e,_⟩:=x;exact⟨_,e⟩
 | ins C dx fs=>obtain⟨_,_,_,e,_⟩:=x;exact⟨_,e⟩
 | own y=>exact x
 | xd fs=>obtain⟨_,⟨_,_,_,e,_⟩,_⟩:=x;exact⟨_,e⟩
 | rng lo hi=>obtain⟨_,_,_,e⟩:=x;exact⟨_,e⟩
 | frz ob u=>obtain⟨e,_⟩:=x;exact⟨_,e⟩
 | tbl ps=>exact⟨_,x⟩
 | met f y=>exact⟨_,x⟩
 | ext φ=>obtain⟨_,e,_⟩:=x;exact e
section
variable {P:Program} {w:World} {H H':Hp} {h h1 h2 B:Heap} {fs:List Addr}
theorem Un.fly (u:Un fs [] H H' h h1) (t1:∀b u,H' b=some u→∃ob,h1.get? b=some ob∧B.get? b=some ob) (t2:∀b o,h.get? b=some o→H b=none→b∉fs→B.get? b=some o)
  (t3:∀b o,h.get? b=some o→b∉fs→∃o',B.get? b=some o') (st:B.StaysIn h2) (up:h1.UpToSlots h2) (nf:∀b∈fs,∀o,h1.get? b=some o→∀vs,o.data≠.fields vs):Un fs [] H H' h h2 where
 keep:=λb o q n hb _=>st b o (t2 b o q n hb)
 slot:=λb o q n hb hx=>by
  obtain⟨sl,e⟩:=u.slot b o q n hb hx
  obtain⟨sl',e'⟩:=up b _ e (nf b hb _ e)
  exact⟨sl',e'⟩
 free:=u.free
 there:=λb o q hx=>by
  by_cases hb:b∈fs
  ·obtain⟨o',e⟩:=u.there b o q hx
   obtain⟨sl',e'⟩:=up b _ e (nf b hb _ e)
   exact⟨_,e'⟩
  ·obtain⟨o',e⟩:=t3 b o q hb
   exact⟨o',st b o' e⟩
 tups:=u.tups
 frzs:=u.frzs
 tbls:=u.tbls
theorem HOk.fly (x:HOk P w H' h1) (t1:∀b u,H' b=some u→∃ob,h1.get? b=some ob∧B.get? b=some ob) (st:B.StaysIn h2):HOk P w H' h2:=λa o e =>
 (x a o e).stay (λb u hb q=>by
  have ht:∃z,H' b=some z:=by
   rcases hb with rfl|hb
   ·exact⟨_,e⟩
   ·exact⟨_,hb⟩
  obtain⟨z,hz⟩:=ht
  obtain⟨ob,g1,g2⟩:=t1 b z hz
  rw[q] at g1
  have g1:=Option.some.inj g1
  subst g1
  exact st b u g2) (λ_ q=>q) λ_ _ q=>q
theorem Flown.move {fr:List Env} {ea C:Addr} (F:Flown P w fr H h H' ea C h1) :
  ∃B a0,Heap.FlyingW B fr ea (.ref C) a0 h1∧∀h2:Heap,Heap.FlyingW B fr ea (.ref C) a0 h2→h1.UpToSlots h2→Flown P w fr H h H' ea C h2:=by
 obtain⟨un,hok,B,a0,fl,t1,t2,t3⟩:=F
 refine⟨B,a0,fl,λh2 fl2 up=>?_⟩
 refine⟨un.fly t1 t2 t3 fl2.1 up (λb hb o e=>?_),hok.fly t1 fl2.1,B,a0,fl2,λb u q=>?_,t2,t3⟩
 ·obtain⟨_,o',ho',hd⟩:=fl.2.2.1.mem hb
  rw[e] at ho'
  cases ho'
  exact hd
 ·obtain⟨ob,_,g2⟩:=t1 b u q
  exact⟨ob,fl2.1 b ob g2,g2⟩
end
theorem zjP {env:Env} {l:List Env} {L:Addr} (h:env.frame=some L):frs (env::l)=L::frs l:=by
 unfold frs
 rw[List.filterMap_cons,h]
section
variable {P:Program} {w:World} {K:PySem.W.Frag} {mg:Str→Option Value} {base:Heap} {N:List Str} {qual:Str} {scope:Scope} {f:Addr} {cd:Value} {A:Around} {outer:List Env} {s:Shared} {H:Hp} {E:XK}
abbrev cxP (P:Program) (w:World) (K:PySem.W.Frag) (mg:Str→Option Value) (base:Heap) (N:List Str) (qual:Str) (scope:Scope) (f:Addr) (cd:Value) (A:Around) (outer:List Env) (s:Shared) (H:Hp) (E:XK):Cx :=
 cxOf (CXP P w) P w K mg base N qual scope f cd A outer s H E
theorem ownP:PassesOwn (model P w) (cxP P w K mg base N qual scope f cd A outer s H E).A (cxP P w K mg base N qual scope f cd A outer s H E).env (cxP P w K mg base N qual scope f cd A outer s H E).xe :=
 PassesOwn.leaving (Q₁:=λe s''=>CXP P w outer H s E e s'')
theorem passP {E':XK} (hE:∀c a H,E' c a H→E c a H):Passes (CXP P w) (cxP P w K mg base N qual scope f cd A outer s H E) E':=by
 rintro pins σ H1 s1 e s' I ⟨ea,C,H',rfl,hos,bare,F,q⟩
 obtain⟨un,hok,B,a0,fl,t1,t2,t3⟩:=F
 have J:=I.call' (ch:=[]) hos un hok bare (λb z=>absurd z (by simp))
 refine wpAny_leaves_onW I.ok.frames rfl fl λh' fl' up=>?_
 have ab:∀b o,s.heap.get? b=some o→b≠(cxP P w K mg base N qual scope f cd A outer s H E).env.locals:=λb o e=>Nat.ne_of_lt (Nat.lt_of_lt_of_le (Heap.lt_size e) I.ok.above)
 have nst:∀b o,s.heap.get? b=some o→b∉frs outer→b∉frs (cxP P w K mg base N qual scope f cd A outer s H E).stack:=λb o e hb hm=>by
  have hm:b∈frs (envOfC qual scope s.heap.objs.size f cd::outer):=hm
  rw[zjP (L:=s.heap.objs.size) rfl] at hm
  rcases List.mem_cons.mp hm with z|z
  ·exact ab b o e z
  ·exact hb z
 have noex:∀b:Addr,b∉(cxP P w K mg base N qual scope f cd A outer s H E).ex:=λb z=>absurd (show b∈([]:List Addr) from z) (by simp)
 have u2:∀b o,s.heap.get? b=some o→H b=none→b∉frs outer→B.get? b=some o:=λb o e n hb =>
  t2 b o (I.base.keep b o e n hb (noex b)) (I.base.free b o e n (noex b)) (nst b o e hb)
 have u3:∀b o,s.heap.get? b=some o→b∉frs outer→∃o',B.get? b=some o':=λb o e hb=>by
  obtain⟨o',e'⟩:=I.base.there b o e (noex b)
  exact t3 b o' e' (nst b o e hb)
 refine⟨ea,C,H',rfl,J.os,bare,⟨Un.fly J.base t1 u2 u3 fl'.1 up (λb hb o e=>?_),hok.fly t1 fl'.1,B,a0,fl',λb u z=>?_,u2,u3⟩,hE _ _ _ q⟩
 ·have hb:b∈frs (envOfC qual scope s.heap.objs.size f cd::outer):=by
   rw[zjP (L:=s.heap.objs.size) rfl]
   exact List.mem_cons_of_mem _ hb
  obtain⟨_,o',ho',hd⟩:=fl.2.2.1.mem hb
  rw[e] at ho'
  cases ho'
  exact hd
 ·obtain⟨ob,_,g2⟩:=t1 b u z
  exact⟨ob,fl'.1 b ob g2,g2⟩
theorem raiseP {pins:List (Addr×Obj)} {σ:St} {H1:Hp} {s1:Shared} {h':Heap} {e C:Addr} (I:Inv (cxP P w K mg base N qual scope f cd A outer s H E) pins σ H1 s1) (hx:Heap.MadeExcOf s1.heap h' e (.ref C) []) (q:E (.ref C) none H1) :
  (cxP P w K mg base N qual scope f cd A outer s H E).xe (.ref e) { s1 with heap:=h' }:=by
 have hin:∀env∈(cxP P w K mg base N qual scope f cd A outer s H E).stack,∀b,env.frame=some b→b∈frs (cxP P w K mg base N qual scope f cd A outer s H E).stack:=λenv he b hb=>List.mem_filterMap.mpr ⟨env,he,hb⟩
 have noex:∀b:Addr,b∉(cxP P w K mg base N qual scope f cd A outer s H E).ex:=λb z=>absurd (show b∈([]:List Addr) from z) (by simp)
 refine wpAny_leaves_madeW (base:=PySem.W.hideAll s1.heap (frs (cxP P w K mg base N qual scope f cd A outer s H E).stack)) (h:=s1.heap) I.ok.frames rfl (λb o z=>PySem.W.of_hideAll _ z) (PySem.W.funFrames_hide I.stack hin) hx λh2 t fl _ _ up=>?_
 have ab:∀b o,s.heap.get? b=some o→b≠(cxP P w K mg base N qual scope f cd A outer s H E).env.locals:=λb o e=>Nat.ne_of_lt (Nat.lt_of_lt_of_le (Heap.lt_size e) I.ok.above)
 have nst:∀b o,s.heap.get? b=some o→b∉frs outer→b∉frs (cxP P w K mg base N qual scope f cd A outer s H E).stack:=λb o e hb hm=>by
  have hm:b∈frs (envOfC qual scope s.heap.objs.size f cd::outer):=hm
  rw[zjP (L:=s.heap.objs.size) rfl] at hm
  rcases List.mem_cons.mp hm with z|z
  ·exact ab b o e z
  ·exact hb z
 have t1:∀b u,H1 b=some u→∃ob,s1.heap.get? b=some ob∧(PySem.W.hideAll s1.heap (frs (cxP P w K mg base N qual scope f cd A outer s H E).stack)).get? b=some ob:=λb u z=>by
  have hb:b∉frs (cxP P w K mg base N qual scope f cd A outer s H E).stack:=λm=>by
   rw[I.stkFree b m] at z
   cases z
  obtain⟨ob,g⟩:=(I.hok b u z).there
  exact⟨ob,g,PySem.W.hideAll_get _ g hb⟩
 have u2:∀b o,s.heap.get? b=some o→H b=none→b∉frs outer→(PySem.W.hideAll s1.heap (frs (cxP P w K mg base N qual scope f cd A outer s H E).stack)).get? b=some o:=λb o e n hb =>
  PySem.W.hideAll_get _ (I.base.keep b o e n hb (noex b)) (nst b o e hb)
 have u3:∀b o,s.heap.get? b=some o→b∉frs outer→∃o',(PySem.W.hideAll s1.heap (frs (cxP P w K mg base N qual scope f cd A outer s H E).stack)).get? b=some o':=λb o e hb=>by
  obtain⟨o',e'⟩:=I.base.there b o e (noex b)
  exact⟨o',PySem.W.hideAll_get _ e' (nst b o e hb)⟩
 have up0:s1.heap.UpToSlots h2:=(Heap.UpToSlots.of_keeps hx.keeps).trans up
 refine⟨e,C,H1,rfl,I.os,I.bare,⟨Un.fly I.base t1 u2 u3 fl.1 up0 (λb hb o z=>?_),I.hok.fly t1 fl.1,_,_,fl,λb u z=>?_,u2,u3⟩,q⟩
 ·obtain⟨_,o',ho',hd⟩:=I.funs.mem hb
  rw[z] at ho'
  cases ho'
  exact hd
 ·obtain⟨ob,_,g2⟩:=t1 b u z
  exact⟨ob,fl.1 b ob g2,g2⟩
end
end L2
end
section
namespace L2
open PySem PySem.Spec PyProof.Rows
open PySem.W (excIn exmOne)
theorem zqE {K:PySem.W.Frag} {h:Heap} {C:Addr} {bmB:List Value} {newId:String} (X:K.In h) (q:excIn K C bmB newId=true) :
  ∃bm N nm qn bs hdct sn sub ab col dd k0 k1 k2 k3 k5 mN,h.get? C=some (excClassObj nm qn C N bs bm hdct sn sub ab col dd k0 k1 k2 k3 k5 newId)∧h.Ns N mN∧mN "__init__"=none∧OwnTail h bmB bm:=by
 unfold excIn at q
 split at q
 ·rename_i od ci sv hl
  split at q
  ·rename_i D tl a0 a1 a2 a3 nid a5 e1 e2
   simp only[Bool.and_eq_true,beq_iff_eq,Bool.not_eq_true'] at q
   obtain⟨⟨⟨⟨⟨q1,q2⟩,q3⟩,q4⟩,q5⟩,q6⟩:=q
   subst q1 q2
   obtain⟨f1,f2,f3,f4,f5,f6,f7,f8,f9,fa,fb⟩:=ci
   dsimp only at e1 q3 q5 q6
   subst e1 q3
   obtain⟨sl⟩:=sv
   dsimp only at e2
   subst e2
   refine⟨tl,f4,f1,f5,f2,f6,f7,f8,f9,fa,od,a0,a1,a2,a3,a5,_,X _ _ hl,.of_isNs (PySem.W.isNs_of_in X q5),?_,PySem.W.tail_of_in X q4⟩
   exact PySem.W.nsMap_none_of_in X q5 q6
  ·cases q
 ·cases q
section
variable {P:Program} {w:World} {K:PySem.W.Frag} {mg:Str→Option Value} {base:Heap} {N:List Str} {qual:Str} {scope:Scope} {f:Addr} {cd:Value} {A:Around} {outer:List Env} {s:Shared} {H:Hp} {E:XK}
theorem zd8 {x:Str} {C:Addr} {np cpos pos:Pos} (hg:Gl (cxP P w K mg base N qual scope f cd A outer s H E) x) (hm:mg x=some (.ref C)) (er:Err K C) (hd:(x == ("__debug__":Str))=false:=by decide) :
  PS (cxP P w K mg base N qual scope f cd A outer s H E) (.Raise (some (.Call (.Name x np) [] [] cpos)) none pos) (λ_ _ H'=>E (.ref C) none H'):=by
 intro pins s1 σ H1 D I q
 obtain⟨bm,nsA,nm,qn,bs,hdct,sn,sub,ab,col,dd,k0,k1,k2,k3,k5,mN,hC,hN,hni,T⟩:=zqE I.kIn er
 refine wpAny_Raise_call_subT (C:=C) (nm:=nm) (q:=qn) (N:=nsA) (bs:=bs) (bm:=bm) (hdct:=hdct) (sn:=sn) (sub:=sub) (ab:=ab) (col:=col) (dd:=dd) (k0:=k0) (k1:=k1) (k2:=k2) (k3:=k3) (k5:=k5)
  PySem.F.excBase_Exception (mN:=mN) (T.hasType PySem.F.excBase_Exception.hasBase) (I.ok.hd rfl) rfl hni (zg6 I hg hm ⟨rfl,?_⟩ hd)
 exact evalArgs_empty ⟨rfl,Nat.zero_le _,hC,hN,T,λh' e hx=>raiseP I hx q⟩
end
abbrev Cx.marked (X:Cx) (ea:Addr):Cx:={ X with A:=X.A.mark (some (.ref ea)),calm:=false,xe:=λ_ _=>False }
theorem Cx.Ok.marked {X:Cx} (ok:X.Ok) (ea:Addr):(X.marked ea).Ok :=
 ⟨ok.mod,ok.kind,ok.glob,ok.blt,ok.above,ok.inj,ok.has,ok.cab,(λz=>nomatch z),ok.frames,ok.stk,ok.exf,ok.bs,ok.bsz,ok.noex,ok.exfs,ok.funs,ok.frf⟩
section
variable {X:Cx} {pins:List (Addr×Obj)} {σ:St} {H:Hp} {s:Shared} {ea:Addr}
theorem Inv.marked (I:Inv X pins σ H s) (ea:Addr):Inv (X.marked ea) pins σ H s:=⟨I.ok.marked ea,I.os,I.bare,I.base,I.loc,I.cell,I.free,I.freeC,I.pin,I.hok,I.len⟩
theorem Inv.unmarked (ok:X.Ok) (I:Inv (X.marked ea) pins σ H s):Inv X pins σ H s:=⟨ok,I.os,I.bare,I.base,I.loc,I.cell,I.free,I.freeC,I.pin,I.hok,I.len⟩
theorem SP.unmarked {D:Ends} {f:Flow} (ok:X.Ok) (h:SP (X.marked ea) pins D f s):SP X pins D f s:=by
 cases f with
 | next=>obtain⟨σ',H',I,q⟩:=h;exact⟨σ',H',I.unmarked ok,q⟩
 | brk=>obtain⟨σ',H',I,q⟩:=h;exact⟨σ',H',I.unmarked ok,q⟩
 | cont=>obtain⟨σ',H',I,q⟩:=h;exact⟨σ',H',I.unmarked ok,q⟩
 | ret u=>obtain⟨v,σ',H',I,r,q⟩:=h;exact⟨v,σ',H',I.unmarked ok,r,q⟩
end
def Lnd (X:Cx) (pins:List (Addr×Obj)) (σ:St) (H':Hp) (ea C:Addr) (s':Shared):Prop :=
 ∃(H:Hp) (s:Shared),Inv X pins σ H s∧s'.os=s.os∧AllBare s'.gens∧Flown X.prog X.w X.stack H s.heap H' ea C s'.heap
section
variable {X:Cx} {pins:List (Addr×Obj)} {σ:St} {H':Hp} {ea C:Addr} {s':Shared}
theorem Lnd.inv (l:Lnd X pins σ H' ea C s'):Inv X pins σ H' s':=by
 obtain⟨H,s,I,os,bare,F⟩:=l
 exact I.call' (ch:=[]) os F.un F.hok bare (λb z=>absurd z (by simp))
theorem Lnd.move (l:Lnd X pins σ H' ea C s'):∃B a0,Heap.FlyingW B X.stack ea (.ref C) a0 s'.heap∧
  ∀h2:Heap,Heap.FlyingW B X.stack ea (.ref C) a0 h2→s'.heap.UpToSlots h2→Lnd X pins σ H' ea C { s' with heap:=h2 }:=by
 obtain⟨H,s,I,os,bare,F⟩:=l
 obtain⟨B,a0,fl,k⟩:=F.move
 exact⟨B,a0,fl,λh2 fl2 up=>⟨H,s,I,os,bare,k h2 fl2 up⟩⟩
theorem Lnd.ty (l:Lnd X pins σ H' ea C s') (M:Model):PySem.W.Looks M s'.heap (typeOf (.ref ea)) (.ref C):=by
 obtain⟨H,s,I,os,bare,F⟩:=l
 obtain⟨B,a0,fl,_⟩:=F.fl
 obtain⟨ob,hob,hc⟩:=fl.there
 rw[←hc]
 exact(PySem.W.Looks.ld hob).andThen .now
end
def PH (X:Cx) (C:Addr) (hs:List ExceptHandler) (t:TS):Prop :=
 ∀(pins:List (Addr×Obj)) (ea:Addr) (s:Shared) (σ:St) (H:Hp) (D:Ends),Lnd X pins σ H ea C s→t D σ H→wpAny (model X.prog X.w) X.A (handleBy (.ref ea) X.env hs) (SP X pins D) X.xe s
section
variable {X:Cx} {C C2:Addr} {x:Str} {np pos:Pos} {b0:Stmt} {body:List Stmt} {rest:List ExceptHandler} {t:TS}
theorem zdd (hg:Gl X x) (hm:X.mg x=some (.ref C2)) (hx:exmOne X.K (.ref C) (.ref C2)=some false) (h:PH X C rest t) (hd:(x == ("__debug__":Str))=false:=by decide) :
  PH X C (.ExceptHandler (some (.Name x np)) none (b0::body) pos::rest) t:=by
 intro pins ea s σ H D l q
 refine wpAny_handleBy_cons (codeAny_handlers_test ?_) (by intro z;cases z)
 refine zg6 (X:=X.marked ea) (l.inv.marked ea) hg hm ?_ hd
 refine(PySem.W.exm_one l.inv.kIn (l.ty _) hx).here ?_
 exact h pins ea s σ H D l q
theorem zkv (hg:Gl X x) (hm:X.mg x=some (.ref C2)) (hx:exmOne X.K (.ref C) (.ref C2)=some true) (h:∀ea,PSs (X.marked ea) (b0::body) t) (hd:(x == ("__debug__":Str))=false:=by decide) :
  PH X C (.ExceptHandler (some (.Name x np)) none (b0::body) pos::rest) t:=by
 intro pins ea s σ H D l q
 refine wpAny_handleBy_cons (codeAny_handlers_test ?_) (by intro z;cases z)
 refine zg6 (X:=X.marked ea) (l.inv.marked ea) hg hm ?_ hd
 refine(PySem.W.exm_one l.inv.kIn (l.ty _) hx).here ?_
 refine codeAny_handlers_suite ?_
 obtain⟨B,a0,fl,mv⟩:=l.move
 refine lands_againW fl λh2 fl2 up=>?_
 have l2:=mv h2 fl2 up
 exact wpAny_mono (h ea pins _ σ H D (l2.inv.marked ea) q) (λf s3 z=>z.unmarked l2.inv.ok) λ_ _ z=>False.elim z
end
abbrev Cx.pinned (X:Cx) (pn:List (Addr×Obj)) (E:Value→Shared→Prop):Cx:={ X with pn:=pn,xe:=E }
theorem Cx.Ok.pinned {X:Cx} (ok:X.Ok) (pn:List (Addr×Obj)) (E:Value→Shared→Prop):(X.pinned pn E).Ok :=
 ⟨ok.mod,ok.kind,ok.glob,ok.blt,ok.above,ok.inj,ok.has,ok.cab,ok.hd,ok.frames,ok.stk,ok.exf,ok.bs,ok.bsz,ok.noex,ok.exfs,ok.funs,ok.frf⟩
section
variable {X:Cx} {pins pins':List (Addr×Obj)} {σ:St} {H:Hp} {s:Shared} {E:Value→Shared→Prop}
theorem Inv.topin (I:Inv X pins σ H s) (E:Value→Shared→Prop):Inv (X.pinned (X.pn++pins) E) [] σ H s :=
 ⟨I.ok.pinned _ _,I.os,I.bare,I.base,I.loc,I.cell,I.free,I.freeC,λp hp=>I.pin p (by rw[List.append_nil] at hp;exact hp),I.hok,I.len⟩
theorem Inv.unpin (ok:X.Ok) (I:Inv (X.pinned (X.pn++pins) E) pins' σ H s):Inv X pins σ H s :=
 ⟨ok,I.os,I.bare,I.base,I.loc,I.cell,I.free,I.freeC,λp hp=>I.pin p (List.mem_append_left _ hp),I.hok,I.len⟩
theorem SP.unpin {D:Ends} {f:Flow} (ok:X.Ok) (h:SP (X.pinned (X.pn++pins) E) pins' D f s):SP X pins D f s:=by
 cases f with
 | next=>obtain⟨σ',H',I,q⟩:=h;exact⟨σ',H',I.unpin ok,q⟩
 | brk=>obtain⟨σ',H',I,q⟩:=h;exact⟨σ',H',I.unpin ok,q⟩
 | cont=>obtain⟨σ',H',I,q⟩:=h;exact⟨σ',H',I.unpin ok,q⟩
 | ret u=>obtain⟨v,σ',H',I,r,q⟩:=h;exact⟨v,σ',H',I.unpin ok,r,q⟩
end
def tryE (X:Cx) (pn:List (Addr×Obj)) (th:Addr→Hp→Prop):Value→Shared→Prop:=λe s' =>
 ∃(pins:List (Addr×Obj)) (σ:St) (H':Hp) (ea C:Addr),e=.ref ea∧Lnd (X.pinned pn λ_ _=>True) pins σ H' ea C s'∧th C H'
abbrev Cx.tryX (X:Cx) (pn:List (Addr×Obj)) (th:Addr→Hp→Prop):Cx:=X.pinned pn (tryE X pn th)
section
variable {X:Cx}
theorem passTry {pn:List (Addr×Obj)} {th:Addr→Hp→Prop}:Passes (CXP X.prog X.w) (X.tryX pn th) (λc _ H'=>∃C,c=.ref C∧th C H'):=by
 rintro pins σ H s e s' I ⟨ea,C,H',rfl,os,bare,F,C',hc,q⟩
 cases hc
 exact⟨pins,σ,H',ea,C,rfl,⟨H,s,⟨I.ok.pinned _ _,I.os,I.bare,I.base,I.loc,I.cell,I.free,I.freeC,I.pin,I.hok,I.len⟩,os,bare,F⟩,q⟩
theorem zqY {sts:List Stmt} {h0:ExceptHandler} {hs:List ExceptHandler} {pos:Pos} {tb:Ends→TS} (th:Addr→Ends→Hp→Prop) (hst:X.stack=X.env::X.outer) (hfr:X.env.frame=some X.env.locals)
  (hb:∀(pn:List (Addr×Obj)) (D:Ends),PSs (X.tryX pn λC H=>th C D H) sts (tb D)) (hh:∀C,PH X C (h0::hs) (λD _ H=>th C D H)) :
  PS X (.Try sts (h0::hs) [] [] pos) (λD σ H=>tb D D σ H):=by
 intro pins s σ H D I q
 refine wpAny_Try_except ?_
 refine wpAny_mono (hb (X.pn++pins) D [] s σ H D (I.topin _) q) (λf s1 z=>?_) ?_
 ·have z:=z.unpin I.ok
  cases f with
  | next=>exact wpAny_execs_nil z
  | brk=>exact z
  | cont=>exact z
  | ret u=>exact z
 ·rintro e s1 ⟨pins',σ',H',ea,C,rfl,l,z⟩
  have l:Lnd X pins σ' H' ea C s1:=by
   obtain⟨H0,s0,I0,os,bare,F⟩:=l
   exact⟨H0,s0,I0.unpin I.ok,os,bare,F⟩
  obtain⟨B,a0,fl,mv⟩:=l.move
  rw[hst] at fl mv
  refine wpAny_looks_onW (by rw[←hst];exact I.ok.frames) hfr fl λh4 held up4=>?_
  refine wpAny_landsW held λh5 fl5 up5=>?_
  exact hh C pins ea _ σ' H' D (mv h5 fl5 (up4.trans up5)) z
end
end L2
end
section
namespace L2
open PySem PySem.Spec PyProof.Rows
section
variable {X:Cx}
def rInsert:V→List V→Hp→VK→Prop:=λx vs H Q=>∃l xs y i,∃k:Nat,x=.ref l∧vs=[.int i,y]∧i=(k:Int)∧H l=some (.lst xs)∧k≤xs.length∧xs.length < sizeLine∧Q .non (upd H l (.lst (xs.take k++y::xs.drop k)))
theorem zn5 (its:List Value) (u:Value) {k:Nat} (hk:k≤its.length):((its.toArray.extract 0 k).push u++its.toArray.extract k)=(its.take k++u::its.drop k).toArray:=by
 simp[List.extract_toArray]
 rw[List.take_of_length_le (by rw[List.length_drop];omega)]
theorem znZ:MtM X "list.insert" rInsert:=by
 intro pins s σ H x vs v us Q I rx rv h
 obtain⟨l,xs,y,i,k,rfl,rfl,hik,hH,hk,hz,q⟩:=h
 cases rx
 obtain⟨u1,u,rfl,⟨t,rfl⟩,ru⟩:=vals2 rv
 obtain⟨z,its,n,r,hl,e⟩:=I.lstM hH
 have hsl:sizeLine=16777216:=sizeLine_eq
 have fit:¬ (!Builtin.List.listFitsIndex i)=true:=by rw[fitsIndex_both (by omega) (by omega)];exact Bool.false_ne_true
 have M:=AutoSeq1.list_insert_list_int_val_1 l its.toArray n i t u fit (by rw[List.size_toArray];omega)
 refine call_meets F.slot_list_insert ⟨_,e,rfl⟩ F.entry_list_insert (F.args_list_insert_3 _ _ _) M ⟨e,?_⟩
 refine⟨.non,_,I.lset (its':=its.take k++u::its.drop k) hH e ?_ ((r.take k).append (.cons ru (r.drop k))) ?_,rfl,q⟩
 ·have ek:(if i < 0 then (i+((its.toArray.size:Nat):Int)).toNat else min i.toNat its.toArray.size)=k:=by
   rw[if_neg (by omega),List.size_toArray];omega
  have gen:∀j:Nat,j=k→((its.toArray.extract 0 j).push u++its.toArray.extract j)=(its.take k++u::its.drop k).toArray:=λj e=>by subst e;exact zn5 its u (by omega)
  exact gen _ ek
 ·rw[List.length_append,List.length_cons,List.length_take,List.length_drop]
  omega
def rExtendT (K:PySem.W.Frag):V→List V→Hp→VK→Prop:=λx vs H Q=>∃l b xs zs,x=.ref l∧vs=[.ref b]∧H l=some (.lst xs)∧SqT K H b zs∧xs.length+zs.length≤sizeLine∧Q .non (upd H l (.lst (xs++zs)))
theorem zmX (l:Addr) (its:Array Value) (n:Nat) (b:Addr) (more:Array Value) (hz:its.size≤sizeLine) (hs:its.size+more.size≤sizeLine) :
  Meets (Builtin.«list.extend» ⟨[.ref l,.ref b],[]⟩) (λ_ R s=>s.heap.get? l=some { cls:=.type "list",dict:=none,data:=.seq its n,slots:=#[] }∧IsTup s.heap b more∧
   R (.ok (.ret Value.none)) { s with heap:=s.heap.update l (Obj.mapSeq λx=>x++more),toks:=s.toks }) :=
 .of_wp λprog w A R s h=>by
  obtain⟨hl,ht,h⟩:=h
  obtain⟨ob,hob,hcb,nb,hdb⟩:=id ht
  show wpAny _ _ (Builtin.List.listExtendWith (.ref l) (.ref b) .none) _ _ s
  unfold Builtin.List.listExtendWith
  refine wpAny_bind (wpAny_typeOf ht.typeIs ?_)
  have e1:(Value.type "tuple" == Value.type "list")=false:=by decide
  have e2:(Value.type "tuple" == Value.type "tuple")=true:=by decide
  simp only[e1,e2,Bool.or_true,if_true]
  refine wpAny_bind (wpAny_listItems hob hdb ?_)
  refine wpAny_bind (wpAny_listItems hl rfl ?_)
  have hlong:(!its.isEmpty && Builtin.List.listTooLong (its.size+more.size))=false:=by rw[notLongL hs,Bool.and_false]
  rw[if_neg (by rw[hlong];exact Bool.false_ne_true)]
  refine wpAny_bind ?_
  show wpAny _ _ (updateSeq l (·++more)) _ _ s
  refine wpAny_updateSeq (hz:=hz) (_hz':=by rw[Array.size_append];omega) hl rfl ?_
  exact wpAny_pure ⟨_,rfl,h⟩
theorem zmU:MtM X "list.extend" (rExtendT X.K):=by
 intro pins s σ H x vs v us Q I rx rv h
 obtain⟨l,b,xs,zs,rfl,rfl,hH,hB,hz,q⟩:=h
 cases rx
 obtain⟨u,rfl,ru⟩:=rv.one
 cases ru
 obtain⟨z,its,n,r,hl,e⟩:=I.lstM hH
 obtain⟨its2,r2,p2,z2⟩:=I.tuple hB
 have l2:=r2.length
 refine call_meets F.slot_list_extend ⟨_,e,rfl⟩ F.entry_list_extend (F.args_list_extend_2 _ _)
  (zmX l its.toArray n b its2.toArray (by rw[List.size_toArray];omega) (by rw[List.size_toArray,List.size_toArray];omega)) ⟨e,p2,?_⟩
 refine⟨.non,_,I.lset (its':=its++its2) hH e (by simp) (r.append r2) ?_,rfl,q⟩
 rw[List.length_append]
 omega
theorem zig (hc:X.calm=true):CallR X (.builtin "sum") (λxs H Q=>∃p,∃ns:List Int,xs=[.ref p]∧SqL X.K H p (ns.map V.int)∧Q (.int ns.sum) H):=by
 intro pins s σ H xs us Q I r h
 obtain⟨p,ns,rfl,hp,q⟩:=h
 obtain⟨u,rfl,ru⟩:=vals1 r
 cases ru
 obtain⟨its,rv,pl,hz⟩:=I.list hp
 have hi:IntsAre its ns:=intsAre_of rv
 obtain⟨ys,hy⟩:=hi.allInts.items
 have hl':s.heap.IsList p (intItems ys):=hy ▸ pl.isList
 refine sum_intListG (I.ok.hd hc) hl' λh' tk t' hk=>?_
 have e1:ns=ys.toList.map (·.1):=by
  rw[←nums_intItems,←hy]
  exact hi.numsOf.symm
 have e2:preSum (numAt ys) ys.size=ns.sum:=by
  rw[preSum_eq,List.take_of_length_le (by simp),e1]
 rw[e2]
 exact⟨.int ns.sum,H,I.kept hk,⟨_,rfl⟩,q⟩
theorem zoL (hc:X.calm=true):CallR X (.type "set") (λxs H Q=>∃p,∃ns:List Int,xs=[.ref p]∧SqL X.K H p (ns.map V.int)∧ns.length+1 < scanBound∧
  ∀a S,H a=none→Q (.ref a) (upd H a (.set S (PyProof.Rows.firstMet (λi=>ns.getD i 0) ns.length).length))):=by
 intro pins s σ H xs us Q I r h
 obtain⟨p,ns,rfl,hp,hb,q⟩:=h
 obtain⟨u,rfl,ru⟩:=vals1 r
 cases ru
 obtain⟨its,rv,pl,hz⟩:=I.list hp
 have hi:IntsAre its ns:=intsAre_of rv
 have hlen:its.toArray.size=ns.length:=by rw[List.size_toArray,←rv.length,List.length_map]
 refine call_set_list (ns:=ns) (I.ok.hd hc) pl.isList hi (by rw[hlen];exact hb) λh' tk hS hk=>?_
 rw[hlen] at hS
 refine⟨.ref s.heap.objs.size,_,I.laid (t':=tk) (o:=.set _ _) (λb o e=>hk b o (Heap.lt_size e) e) (Nat.le_refl _) hS,rfl,q _ _ I.fresh⟩
theorem zoO:CallR X (.builtin "len") (λxs H Q=>∃p S n,xs=[.ref p]∧H p=some (.set S n)∧n≤sizeLine∧Q (.int n) H):=by
 intro pins s σ H xs us Q I r h
 obtain⟨p,S,n,rfl,hp,hn,q⟩:=h
 obtain⟨u,rfl,ru⟩:=vals1 r
 cases ru
 obtain⟨o,es,ep,tb,ho,hex,hd,_,_,_,hf,rfl⟩:=(show s.heap.SetOf (intKind X.prog X.w) p S n from I.hok p _ hp)
 have hsl:sizeLine=16777216:=sizeLine_eq
 exact call_len_set ho hex hd hf (by omega) ⟨.int es.size,H,I.tok _,⟨_,rfl⟩,q⟩
theorem zj3 {P:Program} {w:World}:∀{kvs:List (Key×V)} {vs:List (Key×Value)} {us:List Value},KV kvs vs→us.length=kvs.length→
  (∀(j:Nat) (v:Value),us[j]?=some v→∃k x,vs[j]?=some (k,x)∧(mixKind P w).is k v=true)→Vals (kvs.map λkv=>kV kv.1) us
 | [],_,us,r,hl,_=>by
  have:us=[]:=List.length_eq_zero_iff.mp hl
  subst this
  exact .nil
 | (k,x)::kvs,_,us,r,hl,h=>by
  cases us with
  | nil=>simp at hl
  | cons u us =>
   cases r with
   | @cons a b as bs r1 r2 =>
    obtain⟨k',x',e,hk⟩:=h 0 u rfl
    have e:=Option.some.inj e
    subst e
    obtain⟨e1,_⟩:=r1
    have e1:k=k':=e1
    subst e1
    exact .cons (zmi hk) (zj3 (P:=P) (w:=w) r2 (by simpa using hl) λj v hj=>h (j+1) v hj)
theorem znj (hc:X.calm=true):CallR X (.type "list") (λxs H Q=>∃d kvs,xs=[.ref d]∧H d=some (.dK kvs)∧∀l,H l=none→Q (.ref l) (upd H l (.lst (kvs.map λkv=>kV kv.1)))):=by
 intro pins s σ H xs us Q I r h
 obtain⟨d,kvs,rfl,hd,q⟩:=h
 obtain⟨u,rfl,ru⟩:=vals1 r
 cases ru
 obtain⟨z,lo,vs,kv,dd⟩:=dk_of I.hok hd
 obtain⟨ep,hat⟩:=dd.dictAt
 have hl:kvs.length=vs.length:=Paired.length kv
 refine PySem.W.kdl_call (PySem.W.kdl_dict (knd:=mixKind X.prog X.w) (kvs:=vs) (ep:=ep) lo) (I.ok.hd hc) hat (by omega) λh' tk acc c hk hS hacc=>?_
 have hv:Vals (kvs.map λkv=>kV kv.1) acc.toList:=zj3 (P:=X.prog) (w:=X.w) kv (by rw[Array.length_toList,hacc.1,hl]) λj v e=>hacc.2 j v (by rw[←Array.getElem?_toList];exact e)
 refine⟨.ref s.heap.objs.size,_,I.laid (t':=tk) (o:=.lst _) hk (Nat.le_refl _) ⟨by rw[List.length_map];exact z,acc.toList,c,hv,?_⟩,rfl,q _ I.fresh⟩
 rw[Array.toArray_toList]
 exact hS
def tDispT (tk tv:TE):TE:=λσ H Q=>∀p,H p=none→tk σ (upd H p (.dT [])) λx H1=>tv σ H1 λy H2=>H2 p=some (.dT [])∧∃b ks,x=.ref b∧TK H2 b ks∧Q (.ref p) (upd H2 p (.dT [(ks,y)]))
theorem zpp {k v:Expr} {tk tv:TE} {pos:Pos} (hu:X.A.units < cLine) (hk:PE X k tk) (hv:PE X v tv):PE X (.Dict [some k] [v] pos) (tDispT tk tv):=by
 intro pins s σ H Q I q
 have hn:=I.hok.fresh (Nat.le_refl s.heap.objs.size)
 have I1:=I.laid (a:=s.heap.objs.size) (o:=.dT []) (h':=s.heap.push { cls:=.type "dict",data:=.dict #[] }) (t':=s.toks) (λ_ _ q=>Heap.get?_push_of_some _ q) (Nat.le_refl _) (zpM s.heap I.big)
 refine wpAny_Dict_any rfl rfl (by simp) (by simp) (pairTrees_cons_walk (thn (hk pins _ σ _ _ I1 (q _ hn)) λu s1 ⟨x,H1,I2,rx,q1⟩=>thn (hv pins s1 σ H1 _ I2 q1) λw2 s2 ⟨y,H2,I3,ry,hd2,b,ks,ex,eb,q2⟩=>pairTrees_nil_walk ?_))
 subst ex
 cases rx
 obtain⟨z,hd,xs,rel,dd⟩:=dt_of I3.hok hd2
 have hz:xs.length≤sizeLine:=by rw[←Paired.length rel];exact z
 unfold storeAll
 rw[List.forIn_cons]
 refine wpAny_bind (wpAny_bind (wpAny_dictSet_heap (hsz:=hz) hu (zj4 I3.hok eb) dd λh' dd' hs=>?_))
 refine wpAny_pure ?_
 show wpAny _ _ (forIn [] PUnit.unit _) _ _ _
 rw[List.forIn_nil]
 refine wpAny_pure ⟨.ref s.heap.objs.size,_,?_,rfl,q2⟩
 obtain⟨o',es,ep,hq,h2,h3,h4,_,h5⟩:=dd'
 have hl:(putK ([]:List (List Key×V)) ks y).length≤sizeLine:=by show 1≤sizeLine;decide
 refine zlP I3 (by rw[hd2];exact True.intro) hs ⟨o',hq⟩ ⟨hl,hd,_,(rel.put ks eb ry).keeps λc ys ec=>?_,o',es,ep,hq,h2,h3,h4,h5⟩
 rw[za6 (ne_of ec hd2 (λz=>nomatch z))]
 exact ec
end
end L2
end
section
namespace L2
open PySem PySem.Spec PyProof.Rows
section
variable {prog:Program} {w:World} {A:Around} {R:Result→Shared→Prop} {I:Addr} {fp wr:List Addr} {n:Nat} {P:Nat→Value→Prop} {St:Nat→Heap→Prop}
def LtS (prog:Program) (w:World) (A:Around) (P:Nat→Value→Prop) (St:Nat→Heap→Prop) (bt:Nat→Nat→Bool):Prop :=
 ∀(i j k:Nat) (u v:Value) (s:Shared) (Q:Value→Shared→Prop) (E:Value→Shared→Prop),St k s.heap→P i u→P j v→Q (.bool (bt i j)) s→wpAny (model prog w) A (richCompare .Lt u v) Q E s
abbrev accObj (xs:Array Value) (c:Nat):Obj:={ cls:=.type "list",dict:=none,data:=.seq xs c,slots:=#[] }
theorem zmV (W:Walks prog w A.in1 I fp wr n P St) (bt:Nat→Nat→Bool) (lt:LtS prog w A.in1 P St bt) (S:Addr) (nS:S∉fp):∀(m j:Nat) (s:Shared) (b:Value) (c:Nat),n=j+1+m→St (j+1) s.heap→P (argBest bt j) b→
  s.heap.get? S=some (accObj #[b,b] c)→(∀v h' tk,P (argBest bt (n - 1)) v→(∀a o,a∉wr→a≠S→s.heap.get? a=some o→h'.get? a=some o)→R (.ok (.ret v)) { s with heap:=h',toks:=tk })→
  codeAny (model prog w) A (.builtin "min.loop" ⟨[.ref I,.none,.ref S],[]⟩) R s:=by
 have nW:S∉wr:=λz=>nS (W.sub _ z)
 have nm:(toString "min"++toString ".loop":String)="min.loop":=by decide
 intro m
 induction m with
 | zero =>
  intro j s b c en st hb hS hR
  refine codeAny_builtin PySem.F.entry_min_loop (by
   rw[Around.under_plainId PySem.F.plain_min_loop _]
   show wpAny _ A.in1 (seqItems? (.ref S) >>= _) _ _ s
   refine wpAny_bind (wpAny_seqItems hS rfl (by
    show wpAny _ A.in1 (tryCatch (pyNext (.ref I)) _ >>= _) _ _ s
    refine wpAny_bind (wpAny_tryCatch (W.done s _ _ (by rw[en];exact st) λh1 tk k1=>?_))
    have hS1:=k1 S _ nW hS
    show wpAny _ A.in1 (updateSeq S (λ_=>#[]) >>= _) _ _ _
    refine wpAny_bind (wpAny_updateSeq hS1 rfl (wpAny_bind (wpAny_letGo (wpAny_pure ?_))))
    exact hR b _ tk (by rw[en];exact hb) λa o a1 a2 e=>(Heap.get?_update_other _ _ (Ne.symm a2)).trans (k1 a o a1 e))))
 | succ m ih =>
  intro j s b c en st hb hS hR
  refine codeAny_builtin PySem.F.entry_min_loop (by
   rw[Around.under_plainId PySem.F.plain_min_loop _]
   show wpAny _ A.in1 (seqItems? (.ref S) >>= _) _ _ s
   refine wpAny_bind (wpAny_seqItems hS rfl (by
    show wpAny _ A.in1 (tryCatch (pyNext (.ref I)) _ >>= _) _ _ s
    refine wpAny_bind (wpAny_tryCatch (W.item (j+1) s _ _ (by omega) st λv h1 tk hv st1 k1=>?_))
    have hS1:=k1 S _ nW hS
    show wpAny _ A.in1 (tryCatch (holding [v,v] (richCompare .Lt v b >>= _)) _ >>= _) _ _ _
    refine wpAny_bind (wpAny_tryCatch (wpAny_holding (wpAny_bind (lt (j+1) (argBest bt j) (j+1+1) v b _ _ _ st1 hv hb ?_))))
    refine wpAny_bind (wpAny_holding (wpAny_truthy_bool (wpAny_bind (wpAny_letGo (wpAny_pure ?_)))))
    cases q:bt (j+1) (argBest bt j) with
    | true =>
     simp only[if_true]
     refine wpAny_bind (wpAny_updateSeq hS1 rfl (wpAny_bind (wpAny_letGo ?_)))
     rw[nm]
     refine wpAny_pure ⟨plainId_quiet PySem.F.plain_min_loop _,ih (j+1) _ v _ (by omega) (W.frame _ _ _ st1 λa ha o e=>?_) (by simp only[argBest,q,if_true];exact hv) (Heap.get?_update_self _ hS1 rfl) λv2 h2 tk2 hv2 k2=>?_⟩
     ·exact(Heap.get?_update_other _ _ (λz:S=a=>nS (by rw[z];exact ha))).trans e
     ·exact hR v2 h2 tk2 hv2 λa o a1 a2 e=>k2 a o a1 a2 ((Heap.get?_update_other _ _ (Ne.symm a2)).trans (k1 a o a1 e))
    | false =>
     simp only[Bool.false_eq_true,if_false]
     refine wpAny_bind (wpAny_letGo ?_)
     rw[nm]
     refine wpAny_pure ⟨plainId_quiet PySem.F.plain_min_loop _,ih (j+1) _ b c (by omega) st1 (by simp only[argBest,q,Bool.false_eq_true,if_false];exact hb) hS1 λv2 h2 tk2 hv2 k2=>?_⟩
     exact hR v2 h2 tk2 hv2 λa o a1 a2 e=>k2 a o a1 a2 (k1 a o a1 e))))
theorem zmW (W:Walks prog w A.in1 I fp wr n P St) (bt:Nat→Nat→Bool) (lt:LtS prog w A.in1 P St bt) (S:Addr) (nS:S∉fp) (hn:0 < n) {s:Shared} {c:Nat} (st:St 0 s.heap) (hS:s.heap.get? S=some (accObj #[] c))
  (hR:∀v h' tk,P (argBest bt (n - 1)) v→(∀a o,a∉wr→a≠S→s.heap.get? a=some o→h'.get? a=some o)→R (.ok (.ret v)) { s with heap:=h',toks:=tk }) :
  codeAny (model prog w) A (.builtin "min.loop" ⟨[.ref I,.none,.ref S],[]⟩) R s:=by
 have nW:S∉wr:=λz=>nS (W.sub _ z)
 have nm:(toString "min"++toString ".loop":String)="min.loop":=by decide
 refine codeAny_builtin PySem.F.entry_min_loop (by
  rw[Around.under_plainId PySem.F.plain_min_loop _]
  show wpAny _ A.in1 (seqItems? (.ref S) >>= _) _ _ s
  refine wpAny_bind (wpAny_seqItems hS rfl (by
   show wpAny _ A.in1 (tryCatch (pyNext (.ref I)) _ >>= _) _ _ s
   refine wpAny_bind (wpAny_tryCatch (W.item 0 s _ _ hn st λv h1 tk hv st1 k1=>?_))
   have hS1:=k1 S _ nW hS
   show wpAny _ A.in1 (updateSeq S (λ_=>#[v,v]) >>= _) _ _ _
   refine wpAny_bind (wpAny_updateSeq hS1 rfl ?_)
   rw[nm]
   refine wpAny_pure ⟨plainId_quiet PySem.F.plain_min_loop _,zmV W bt lt S nS (n - 1) 0 _ v _ (by omega) (W.frame _ _ _ st1 λa ha o e=>?_) hv (Heap.get?_update_self _ hS1 rfl) λv2 h2 tk2 hv2 k2=>?_⟩
   ·exact(Heap.get?_update_other _ _ (λz:S=a=>nS (by rw[z];exact ha))).trans e
   ·exact hR v2 h2 tk2 hv2 λa o a1 a2 e=>k2 a o a1 a2 ((Heap.get?_update_other _ _ (Ne.symm a2)).trans (k1 a o a1 e)))))
end
section
variable {prog:Program} {w:World} {A:Around} {E:Value→Shared→Prop} {s:Shared}
theorem zoN {x:Value} {Q:Value→Shared→Prop}
  (h:wpAny (model prog w) A.in1 (pyIter x) (λit s2=>∃I fp wr n P St bt,it=.ref I∧Walks prog w A.in1 I fp wr n P St∧St 0 s2.heap∧(∀b∈fp,b < s2.heap.objs.size)∧0 < n∧LtS prog w A.in1 P St bt∧
   ∀v h' tk,P (argBest bt (n - 1)) v→(∀b o,b∉wr→s2.heap.get? b=some o→h'.get? b=some o)→Q v { s2 with heap:=h',toks:=tk }) E s):wpAny (model prog w) A (call (.builtin "min") [x]) Q E s:=by
 have nm:(toString "min"++toString ".loop":String)="min.loop":=by decide
 refine call_function_tree PySem.F.kind_min PySem.F.plain_min PySem.F.entry_min (PySem.F.args_min1 _) (by
  show wpAny _ A.in1 (Builtin.Builtins.bindParams "min" ["key","default"] 0 ⟨[],[]⟩ >>= _) _ _ s
  refine wpAny_bind (wpAny_of_eq (show Builtin.Builtins.bindParams "min" ["key","default"] 0 ⟨[],[]⟩=pure [none,none] from rfl) (wpAny_bind (wpAny_pure (wpAny_bind (wpAny_mono h (λit s2 h2=>?_) λ_ _ e=>e)))))
  obtain⟨I,fp,wr,n,P,St,bt,rfl,W,st,lo,hn,lt,hQ⟩:=h2
  refine wpAny_bind (wpAny_newObj_type ?_)
  have nS:s2.heap.objs.size∉fp:=λz=>Nat.lt_irrefl _ (lo _ z)
  rw[nm]
  refine wpAny_pure ⟨plainId_quiet PySem.F.plain_min_loop _,zmW W bt lt s2.heap.objs.size nS hn (W.frame _ _ _ st λb _ o e=>Heap.get?_push_of_some _ e) (Heap.get?_push_size _ rfl) λv h1 tk hv k1=>?_⟩
  exact hQ v h1 tk hv λb o hb e=>k1 b o hb (Nat.ne_of_lt (Heap.lt_size e)) (Heap.get?_push_of_some _ e))
end
def leastAt (nss:List (List Int)):Nat:=argBest (λi j=>HT.lexLt (nss.getD i []) (nss.getD j [])) (nss.length - 1)
section
variable {X:Cx}
theorem zoM (hc:X.calm=true) (hu:X.A.units+1 < cLine):CallR X (.builtin "min") (λxs H Q=>∃p,∃ts:List Addr,∃nss:List (List Int),xs=[.ref p]∧SqL X.K H p (ts.map V.ref)∧Paired (λt ns=>SqT X.K H t (ns.map V.int)) ts nss∧nss≠[]∧
  ∀t,ts[leastAt nss]?=some t→Q (.ref t) H):=by
 intro pins s σ H xs us Q I r h
 obtain⟨p,ts,nss,rfl,hp,ht,hne,q⟩:=h
 obtain⟨u,rfl,ru⟩:=vals1 r
 cases ru
 obtain⟨its,rv,pl,hz⟩:=I.list hp
 have hl:its.length=ts.length:=by rw[←rv.length,List.length_map]
 have hl2:ts.length=nss.length:=Paired.length ht
 have hn:0 < its.length:=by rw[hl,hl2];exact List.length_pos_iff.mpr hne
 have hit:∀(i:Nat) (v:Value),its[i]?=some v→∃t,ts[i]?=some t∧v=.ref t:=λi v e=>by
  have hi:i < ts.length:=by rw[←hl];exact(List.getElem?_eq_some_iff.mp e).1
  obtain⟨u,hu1,hu2⟩:=rv.get (i:=i) (x:=V.ref ts[i]) (by rw[List.getElem?_map,List.getElem?_eq_getElem hi];rfl)
  rw[e] at hu1
  cases hu1
  exact⟨_,List.getElem?_eq_getElem hi,hu2⟩
 have htup:∀(i:Nat) (t:Addr),ts[i]?=some t→∃vs:List Value,IsTup s.heap t vs.toArray∧IntsAre vs (nss.getD i []):=λi t e=>by
  have gen:∀{ts:List Addr} {nss:List (List Int)},Paired (λt ns=>SqT X.K H t (ns.map V.int)) ts nss→∀(i:Nat),ts[i]?=some t→SqT X.K H t ((nss.getD i []).map V.int):=by
   intro ts nss r
   induction r with
   | nil=>intro i e;simp at e
   | cons h1 h2 ih =>
    intro i e
    cases i with
    | zero=>cases Option.some.inj e;exact h1
    | succ i=>exact ih i (by simpa using e)
  obtain⟨vs,r1,p1,_⟩:=I.tuple (gen ht i e)
  exact⟨vs,p1,intsAre_of r1⟩
 have lp:p < s.heap.objs.size:=pl.lt
 refine zoN (wpAny_pyIter_list pl.isList ?_)
 have W:=Walks.list (prog:=X.prog) (w:=X.w) (A:=X.A.in1) (I.ok.hd hc) s.heap.objs.size p (Nat.ne_of_lt lp) its.toArray
 let St:Nat→Heap→Prop:=λi h=>(h.IsListIter s.heap.objs.size p i∧h.IsList p its.toArray)∧∀t∈ts,∀vs:List Value,IsTup s.heap t vs.toArray→IsTup h t vs.toArray
 have tlt:∀t∈ts,t < s.heap.objs.size:=λt ht'=>by
  obtain⟨i,e⟩:=List.getElem?_of_mem ht'
  obtain⟨vs,p1,_⟩:=htup i t e
  exact p1.lt
 have W2:Walks X.prog X.w X.A.in1 s.heap.objs.size (s.heap.objs.size::p::ts) [s.heap.objs.size] its.toArray.size (λi v=>its.toArray[i]?=some v) St:=by
  refine⟨λb hb=>by rw[List.mem_singleton.mp hb];exact List.mem_cons_self,λi h h' st k=>?_,λi s1 Q1 E1 hi st hQ=>?_,λs1 Q1 E1 st hQ=>?_,λi s1 Q1 E1 st hQ=>?_⟩
  ·refine⟨W.frame i h h' st.1 λb hb o e=>k b ?_ o e,λt ht' vs hv=>?_⟩
   ·rcases List.mem_cons.mp hb with z|z
    ·rw[z];exact List.mem_cons_self
    ·rw[List.mem_singleton.mp z];exact List.mem_cons_of_mem _ List.mem_cons_self
   ·obtain⟨o,e,r⟩:=st.2 t ht' vs hv
    exact⟨o,k t (List.mem_cons_of_mem _ (List.mem_cons_of_mem _ ht')) o e,r⟩
  ·refine W.item i s1 Q1 E1 hi st.1 λv h' tk hv st' k=>hQ v h' tk hv ⟨st',λt ht' vs hvs=>?_⟩ k
   obtain⟨o,e,r⟩:=st.2 t ht' vs hvs
   exact⟨o,k t o (by rw[List.mem_singleton];exact Nat.ne_of_lt (tlt t ht')) e,r⟩
  ·exact W.done s1 Q1 E1 st.1 hQ
  ·exact W.self i s1 Q1 E1 st.1 hQ
 refine⟨s.heap.objs.size,s.heap.objs.size::p::ts,[s.heap.objs.size],its.toArray.size,_,St,λi j=>HT.lexLt (nss.getD i []) (nss.getD j []),rfl,W2,⟨⟨⟨_,Heap.get?_push_size _ rfl,rfl,rfl⟩,pl.isList.push _⟩,λt ht' vs hv=>?_⟩,λb hb=>?_,by rw[List.size_toArray];exact hn,?_,?_⟩
 ·obtain⟨o,e,r⟩:=hv
  exact⟨o,Heap.get?_push_of_some _ e,r⟩
 ·show b < (s.heap.push _).objs.size
  rw[Heap.size_push]
  rcases List.mem_cons.mp hb with z|z
  ·rw[z];exact Nat.lt_succ_self _
  ·rcases List.mem_cons.mp z with z|z
   ·rw[z];exact Nat.lt_succ_of_lt lp
   ·exact Nat.lt_succ_of_lt (tlt b z)
 ·intro i j k u v s1 Q1 E1 st hu1 hv1 hQ
  obtain⟨t1,e1,rfl⟩:=hit i u (by simpa using hu1)
  obtain⟨t2,e2,rfl⟩:=hit j v (by simpa using hv1)
  obtain⟨v1,p1,i1⟩:=htup i t1 e1
  obtain⟨v2,p2,i2⟩:=htup j t2 e2
  exact HT.zn0 (A:=X.A.in1) (st.2 t1 (List.mem_of_getElem? e1) v1 p1) (st.2 t2 (List.mem_of_getElem? e2) v2 p2) i1 i2 hu hQ
 ·intro v h' tk hv k
  obtain⟨t,e,rfl⟩:=hit (argBest (λi j=>HT.lexLt (nss.getD i []) (nss.getD j [])) (its.toArray.size - 1)) v (by have hv:its.toArray[argBest (λi j=>HT.lexLt (nss.getD i []) (nss.getD j [])) (its.toArray.size - 1)]?=some v:=hv;rw[List.getElem?_toArray] at hv;exact hv)
  have hidx:argBest (λi j=>HT.lexLt (nss.getD i []) (nss.getD j [])) (its.toArray.size - 1)=leastAt nss:=by unfold leastAt;rw[List.size_toArray,hl,hl2]
  rw[hidx] at e
  refine⟨.ref t,H,I.kept (t':=tk) λb o e=>k b o (by rw[List.mem_singleton];exact Nat.ne_of_lt (Heap.lt_size e)) (Heap.get?_push_of_some _ e),rfl,q t e⟩
end
end L2
end
section
namespace L2
open PySem PySem.Spec PyProof.Rows
section
variable {prog:Program} {w:World} {A:Around} {E:Value→Shared→Prop} {s:Shared}
theorem zhI {it d:Addr} {i n ep:Nat} {od:Obj} {es:Array DictEntry} {en:DictEntry} {Q:Value→Shared→Prop} (hit:s.heap.IsKeyIter it d i n ep) (hod:s.heap.get? d=some od) (hdd:od.data=.dict es ep)
  (hsz:es.size=n) (hx:es[i]?=some en) (hQ:∀h',h'.IsKeyIter it d (i+1) n ep→Heap.SameBut it s.heap h'→Q en.key { s with heap:=h' }):wpAny (model prog w) A (Builtin.SmallTypes.nextOf (.ref it)) Q E s:=by
 obtain⟨o,ho,hc,hd⟩:=id hit
 unfold Builtin.SmallTypes.nextOf
 refine wpAny_bind (wpAny_callSpecial?_slot (name:=Str.ofString "__next__") hit.typeIs F.slot_dict_keyiterator_next
  (wpAny_call_entry F.slot_dict_keyiterator_next hit.typeIs F.entry_dict_keyiterator_next ?_ (F.args_dict_keyiterator_next_1 _)))
 refine wpAny_bind (wpAny_pure ?_)
 refine wpAny_bind ?_
 refine wpAny_bind ?_
 first|refine wpAny_bind (wpAny_typeNameOfWhole_keyiter hit.typeIs (wpAny_pure ?_))|refine wpAny_bind (wpAny_typeNameOf_keyiter hit.typeIs (wpAny_pure ?_))
 refine wpAny_bind (wpAny_fieldsOf ho hd ?_)
 have hown:Builtin.Dict_items.ownsTuple "dict_keyiterator"=false:=by decide
 simp only[hown,Bool.false_eq_true,if_false]
 show wpAny _ _ (if (Value.ref d == Value.none)=true then _ else _) _ _ s
 rw[if_neg (show ¬ ((Value.ref d == Value.none)=true) from Bool.false_ne_true)]
 refine wpAny_bind (wpAny_pure ?_)
 refine wpAny_bind (wpAny_dictEntries hod hdd ?_)
 rw[if_neg (by rw[hsz];simp)]
 refine wpAny_bind (wpAny_pure ?_)
 refine wpAny_bind (wpAny_dictEpoch hod hdd ?_)
 rw[if_neg (by simp)]
 refine wpAny_pure ?_
 obtain⟨hlt',hen⟩:=Array.getElem?_eq_some_iff.mp hx
 simp only[show ¬ ((i:Int) < 0) from by omega,if_false,Int.toNat_natCast,Array.getElem?_eq_getElem hlt']
 refine wpAny_bind ?_
 first|refine wpAny_bind (wpAny_typeNameOfWhole_keyiter hit.typeIs (wpAny_pure ?_))|refine wpAny_bind (wpAny_typeNameOf_keyiter hit.typeIs (wpAny_pure ?_))
 refine wpAny_bind (wpAny_isOneOf_keyiter hit.typeIs ?_)
 show wpAny _ _ (setField (.ref it) 1 (rawInt ((i:Int)+1)) >>= _) _ _ s
 refine wpAny_bind (wpAny_setField ho hd (by simp) ?_)
 have hit':(s.heap.update it (Obj.mapFields (·.setIfInBounds 1 (rawInt ((i:Int)+1))))).IsKeyIter it d (i+1) n ep :=
  ⟨_,Heap.get?_update_self _ ho (Obj.isFreed_of_fields (Obj.data_mapFields hd _)),(Obj.cls_mapFields ..).trans hc,by rw[Obj.data_mapFields hd];simp[rawInt]⟩
 refine wpAny_bind (wpAny_holding ?_)
 refine wpAny_bind (wpAny_isOneOf_keyiter (s:={ s with heap:=s.heap.update it (Obj.mapFields (·.setIfInBounds 1 (rawInt ((i:Int)+1)))) }) hit'.typeIs ?_)
 show wpAny _ _ (pure es[i].key) _ _ _
 rw[hen]
 exact wpAny_pure (wpAny_pure ⟨_,rfl,wpAny_pure (hQ _ hit' (Heap.SameBut.update ..))⟩)
theorem zeF {it d:Addr} {i n ep:Nat} {od:Obj} {es:Array DictEntry} {Q:Value→Shared→Prop} (hh:A.handled=none) (hit:s.heap.IsKeyIter it d i n ep) (hod:s.heap.get? d=some od) (hdd:od.data=.dict es ep)
  (hsz:es.size=n) (hge:n≤i) (hE:∀h' e,Heap.ExtBut it s.heap h'→(∃o,h'.get? e=some o∧o.cls=.type "StopIteration")→E (.ref e) { s with heap:=h' }):wpAny (model prog w) A (Builtin.SmallTypes.nextOf (.ref it)) Q E s:=by
 obtain⟨o,ho,hc,hd⟩:=id hit
 unfold Builtin.SmallTypes.nextOf
 refine wpAny_bind (wpAny_callSpecial?_slot (name:=Str.ofString "__next__") hit.typeIs F.slot_dict_keyiterator_next
  (wpAny_call_entry F.slot_dict_keyiterator_next hit.typeIs F.entry_dict_keyiterator_next ?_ (F.args_dict_keyiterator_next_1 _)))
 refine wpAny_bind (wpAny_pure ?_)
 refine wpAny_bind ?_
 refine wpAny_bind ?_
 first|refine wpAny_bind (wpAny_typeNameOfWhole_keyiter hit.typeIs (wpAny_pure ?_))|refine wpAny_bind (wpAny_typeNameOf_keyiter hit.typeIs (wpAny_pure ?_))
 refine wpAny_bind (wpAny_fieldsOf ho hd ?_)
 have hown:Builtin.Dict_items.ownsTuple "dict_keyiterator"=false:=by decide
 simp only[hown,Bool.false_eq_true,if_false]
 show wpAny _ _ (if (Value.ref d == Value.none)=true then _ else _) _ _ s
 rw[if_neg (show ¬ ((Value.ref d == Value.none)=true) from Bool.false_ne_true)]
 refine wpAny_bind (wpAny_pure ?_)
 refine wpAny_bind (wpAny_dictEntries hod hdd ?_)
 rw[if_neg (by rw[hsz];simp)]
 refine wpAny_bind (wpAny_pure ?_)
 refine wpAny_bind (wpAny_dictEpoch hod hdd ?_)
 rw[if_neg (by simp)]
 refine wpAny_pure ?_
 have hge':es.size≤i:=by rw[hsz];exact hge
 simp only[show ¬ ((i:Int) < 0) from by omega,if_false,Int.toNat_natCast,Array.getElem?_eq_none hge']
 refine wpAny_bind ?_
 first|refine wpAny_bind (wpAny_typeNameOfWhole_keyiter hit.typeIs (wpAny_pure ?_))|refine wpAny_bind (wpAny_typeNameOf_keyiter hit.typeIs (wpAny_pure ?_))
 show wpAny _ _ (setField (.ref it) 0 .none >>= _) _ _ s
 refine wpAny_bind (wpAny_setField ho hd (by simp) ?_)
 show wpAny _ _ (newExc (.type "StopIteration") [] >>= _) _ _ _
 refine wpAny_bind ?_
 simp only[newExc,newTuple]
 refine wpAny_bind (wpAny_newObj_type ?_ (by size_fits))
 refine wpAny_bind (m:=firstArgMember _ _) (wpAny_of_eq (a:=Value.none) (by first|rfl|(simp only[firstArgMember];rfl)) ?_)
 refine wpAny_newObj_type ?_ (by size_fits)
 simp only[raiseNew]
 refine wpAny_bind (wpAny_handled ?_)
 rw[show A.in1.handled=none from hh]
 refine wpAny_bind (wpAny_pure (wpAny_throw ?_))
 exact hE _ _ (((Heap.SameBut.update ..).extBut.push _).push _) ⟨_,Heap.get?_push_size _ rfl,rfl⟩
theorem zna (hh:A.handled=none) (it d:Addr) (hne:d≠it) {od:Obj} {es:Array DictEntry} {ep:Nat} (hdd:od.data=.dict es ep) :
  Draws prog w A it [it,d] es.size (λi v=>∃en,es[i]?=some en∧v=en.key) (λi h=>h.IsKeyIter it d i es.size ep∧h.get? d=some od) where
 live:=λ_ _ st=>let ⟨o,ho,_⟩:=st.1;⟨o,ho⟩
 frame:=λ_ _ _ st hk=>⟨st.1.at λo e=>hk it (by simp) o e,hk d (by simp) _ st.2⟩
 item:=λi s Q E hi st hQ=>zhI st.1 st.2 hdd rfl (Array.getElem?_eq_getElem hi) λh' st' sb=>hQ _ h' s.toks ⟨_,Array.getElem?_eq_getElem hi,rfl⟩ ⟨st',(sb.2 d hne).trans st.2⟩ sb
 done:=λs Q E st hE=>zeF hh st.1 st.2 hdd rfl (Nat.le_refl _) hE
theorem zlG (d:Addr) (hs:(d == sysModules)=false) (o:Obj) (hc:o.ExactDict) (es:Array DictEntry) (ep:Nat) (hd:o.data=.dict es ep) :
  Meets (Builtin.«enumerate.__new__» ⟨[.type "enumerate",.ref d],[]⟩) (λ_ R s=>s.heap.get? d=some o∧
   R (.ok (.ret (.ref (s.heap.push { cls:=.type "dict_keyiterator",data:=.fields #[.ref d,.int 0 0,.int es.size 0,.int ep 0] }).objs.size)))
    { s with heap:=(s.heap.push { cls:=.type "dict_keyiterator",data:=.fields #[.ref d,.int 0 0,.int es.size 0,.int ep 0] }).push { cls:=.type "enumerate",data:=.fields #[.none,.bool false,.ref s.heap.objs.size,rawInt 0,.none,.none] } }) :=
 .of_wp λprog w A R s h=>by
  obtain⟨hp,g,dd,tk,os⟩:=s
  obtain⟨ho,h⟩:=h
  have hsub:=sub_enumerate
  have hI:∀(A:Around) (E:Value→Shared→Prop) (Q:Value→Shared→Prop),Q (.ref hp.objs.size) ⟨hp.push { cls:=.type "dict_keyiterator",data:=.fields #[.ref d,.int 0 0,.int es.size 0,.int ep 0] },g,dd,tk,os⟩→
    wpAny (model prog w) A (pyIter (.ref d)) Q E ⟨hp,g,dd,tk,os⟩:=λA E Q hq=>zod hs ho hc hd hq
  wp_walk
  refine wpAny_stack_any λst=>wpAny_pure ?_
  split
  ·rename_i c _ _ _ _ _
   cases (c == Value.type "enumerate")
   ·wp_walk using hI
    exact⟨_,rfl,h⟩
   ·wp_walk using hI
    exact⟨_,rfl,h⟩
  ·wp_walk using hI
   exact⟨_,rfl,h⟩
end
abbrev keyItObj (d:Addr) (n ep:Nat):Obj:={ cls:=.type "dict_keyiterator",data:=.fields #[.ref d,.int 0 0,.int n 0,.int ep 0] }
abbrev enumObj (it:Addr):Obj:={ cls:=.type "enumerate",data:=.fields #[.none,.bool false,.ref it,rawInt 0,.none,.none] }
def Itek (d:Addr) (o:Obj) (kvs:List (Key×V)):It :=
 ⟨λi H=>H d=some (.frz o (.dK kvs))∧i < kvs.length,λi H v H'=>∃T k u,v=.ref T∧H T=none∧H'=upd H T (.tup [.int (i:Nat),kV k])∧kvs[i]?=some (k,u),λi H=>H d=some (.frz o (.dK kvs))∧kvs.length≤i⟩
theorem zmL {P:Program} {w:World} {K:PySem.W.Frag} {elts:List Expr} {kk:Nat} {tpos:Pos} {d:Addr} {o:Obj} {es:Array DictEntry} {ep:Nat} {kvs:List (Key×V)} (e it:Addr) (hod:o.data=.dict es ep) (hdi:d≠it) (hde:e≠d) :
  Turn P w K (.Tuple elts kk tpos) (Itek d o kvs) [e,it] e (λi h=>(∃old,IsEnum h e it ((i:Nat):Int) old)∧h.IsKeyIter it d i kvs.length ep∧e≠it) where
 mem:=by simp
 obj:=λi h st b hb=>by
  obtain⟨⟨old,he⟩,⟨oi,ho,hc,hd⟩,_⟩:=st
  have e':b=e∨b=it:=by simpa using hb
  rcases e' with z|z
  ·rw[z];exact⟨_,he,λv q=>nomatch q⟩
  ·rw[z];exact⟨oi,ho,λv q=>by rw[hd] at q;cases q⟩
 keep:=λi h h' st k=>let ⟨⟨old,he⟩,hi,hne⟩:=st;⟨⟨old,k e (by simp) _ he⟩,hi.at λo q=>k it (by simp) o q,hne⟩
 item:=by
  intro X hP hw hK hc i pins s σ H E I hf st hg
  subst hP hw hK
  obtain⟨⟨old,he⟩,hit,hne⟩:=st
  obtain⟨hd,hi⟩:=hg
  obtain⟨hs,hgd,hx,es',ep',vs,hdt,hsz,kv,hm⟩:=I.frzK hd
  obtain⟨rfl,rfl⟩:=zoz hod hdt
  obtain⟨⟨k,v⟩,hkv⟩:∃p,kvs[i]?=some p:=⟨kvs[i],List.getElem?_eq_getElem hi⟩
  obtain⟨u,hu,ru⟩:=zr5 kv hkv
  have hel:e < s.heap.objs.size:=Heap.lt_size he
  have hil:it < s.heap.objs.size:=by obtain⟨_,q,_⟩:=hit;exact Heap.lt_size q
  rw[←hsz] at hit
  refine wpAny_pyNext_enum_itemD (zna (A:=X.A.in1) (I.ok.hd hc) it d hdi hod) he ⟨hit,hgd⟩ (by rw[hsz];exact hi) hne (by simp[hne,hde]) λx h' tk hp ho hst' hT hsz' hk=>?_
  obtain⟨en,hen,rfl⟩:=hp
  have hkey:keyIs k en.key=true:=by
   obtain⟨o2,es2,ho2,hc2,hdd2,hk2,hp2,hn2⟩:=id hm
   rw[hgd] at ho2
   cases ho2
   rw[hdt] at hdd2
   cases hdd2
   exact(hp2.get? (e:=en) (by rw[Array.getElem?_toList];exact hen) hu).1
  refine⟨_,rfl,wpAny_letOwnedTupleGo_enum (s:={ s with heap:=h',toks:=tk+1 }) ho λh'' he' sb=>?_⟩
  have hT2:h''.get? s.heap.objs.size=some { cls:=.type "tuple",data:=.seq #[.int i tk,en.key] }:=(sb.2 _ (Nat.ne_of_gt hel)).trans hT
  have new:ObjOk X.prog X.w (upd H s.heap.objs.size (.tup [.int (i:Nat),kV k])) h'' s.heap.objs.size (.tup [.int (i:Nat),kV k]) :=
   ⟨by show 2≤sizeLine;decide,[.int i tk,en.key],.cons ⟨_,rfl⟩ (.cons (zmi hkey) .nil),⟨_,hT2,rfl,_,rfl⟩⟩
  have I1:Inv X pins σ (upd H s.heap.objs.size (.tup [.int (i:Nat),kV k])) { s with heap:=h'',toks:=tk+1 } :=
   I.turnedNew (ch:=[e,it]) (λb ob hb q=>(sb.2 b (λz=>hb (by simp[z]))).trans (hk b ob (λz=>hb (by simp[z])) (λz=>hb (by simp[z])) q)) hf (Nat.le_refl _) new
  refine⟨.ref s.heap.objs.size,_,I1,rfl,⟨_,k,v,rfl,I.hok.fresh (Nat.le_refl _),rfl,hkv⟩,⟨⟨en.key,?_⟩,?_,hne⟩,λb hb=>?_⟩
  ·have e1:((i+1:Nat):Int)=(i:Int)+1:=by omega
   rw[e1];exact he'
  ·rw[←hsz]
   exact hst'.1.at λo q=>(sb.2 it (Ne.symm hne)).trans q
  ·have hb':b < s.heap.objs.size:=by
    have e':b=e∨b=it:=by simpa using hb
    rcases e' with z|z
    ·rw[z];exact hel
    ·rw[z];exact hil
   rw[za6 (Nat.ne_of_lt hb')]
   exact(hf b hb).1
 done:=by
  intro X hP hw hK hc i pins s σ H E I hf st hg
  subst hP hw hK
  obtain⟨⟨old,he⟩,hit,hne⟩:=st
  obtain⟨hd,hi⟩:=hg
  obtain⟨hs,hgd,hx,es',ep',vs,hdt,hsz,kv,hm⟩:=I.frzK hd
  obtain⟨rfl,rfl⟩:=zoz hod hdt
  obtain⟨f0,f1,f2,f3,f4,f5⟩:=hf it (by simp)
  have D:Draws X.prog X.w X.A.in1 it [it,d] i (λ_ _=>False) (λj h=>(j=i∧h.IsKeyIter it d i kvs.length ep')∧h.get? d=some o) :=
   {
    live:=λ_ _ st=>let ⟨oo,ho,_⟩:=st.1.2;⟨oo,ho⟩
    frame:=λ_ _ _ st hk=>⟨⟨st.1.1,st.1.2.at λo e=>hk it (by simp) o e⟩,hk d (by simp) _ st.2⟩
    item:=λj s Q E hj st hQ=>absurd st.1.1 (Nat.ne_of_lt hj)
    done:=λs Q E st hE=>zeF (I.ok.hd hc) st.1.2 st.2 hdt hsz hi hE }
  exact wpAny_pyNext_enum_endD D he ⟨⟨rfl,hit⟩,hgd⟩ λh' eb=>⟨rfl,I.turned (t':=s.toks) (λb o hb q=>eb b o hb q) f0 f1 f3 f4 f5⟩
 self:=λA i s Q E st h=>let ⟨⟨_,he⟩,_⟩:=st;wpAny_pyIter_enum he h
def iEnumK (ta:TA):TI:=λσ H R=>ta σ H λvs H1=>∃d o kvs,vs=[.ref d]∧H1 d=some (.frz o (.dK kvs))∧R (Itek d o kvs) H1
theorem zpm {X:Cx} {e:Expr} {ta:TA} {p pos tpos:Pos} {elts:List Expr} {kk:Nat} (hg:Gl X "enumerate") (hm:X.mg "enumerate"=none) (ha:PA X [e] ta) (hs:starEach [e] X.env=[(false,eval e X.env)]:=by rfl) :
  PI X (.Tuple elts kk tpos) (.Call (.Name "enumerate" p) [e] [] pos) (iEnumK ta):=by
 intro pins s σ H R I h
 refine Call_ (zgM I hg hm boot_enumerate (PyProof.Rows.callWith_type1 (thn (ha pos pins s σ H _ I h) λus s1 ⟨vs,H1,I1,r1,q1⟩=>?_) hs rfl))
 obtain⟨d,o,kvs,ex,hd,q⟩:=q1
 subst ex
 cases r1 with
 | cons r rr =>
  cases rr
  cases r
  obtain⟨hsm,hgd,hx,es,ep,ws,hdt,hsz,kv,hmm⟩:=I1.frzK hd
  have hdl:d < s1.heap.objs.size:=Heap.lt_size hgd
  refine callType_new PySem.F.called_enumerate (by decide) (PySem.F.typeCall_enumerate_1 _) (PySem.F.newCall_enumerate_1 _) (λobj=>PySem.F.args_object_init_2 obj _) PySem.F.entry_enumerate_new (zlG d hsm o hx es ep hdt) ⟨hgd,?_⟩
  have hz:(s1.heap.push (keyItObj d es.size ep)).objs.size=s1.heap.objs.size+1:=Heap.size_push ..
  show _∧_
  rw[hz]
  have he:IsEnum ((s1.heap.push (keyItObj d es.size ep)).push (enumObj s1.heap.objs.size)) (s1.heap.objs.size+1) s1.heap.objs.size 0 .none:=by
   have:=Heap.get?_push_size (s1.heap.push (keyItObj d es.size ep)) (o:=enumObj s1.heap.objs.size) rfl
   rw[hz] at this;exact this
  refine⟨⟨_,he,rfl⟩,wpAny_pyIter_enum he ?_⟩
  have kp:∀b ob,s1.heap.get? b=some ob→((s1.heap.push (keyItObj d es.size ep)).push (enumObj s1.heap.objs.size)).get? b=some ob:=λb ob x=>Heap.get?_push_of_some _ (Heap.get?_push_of_some _ x)
  have I2:Inv X pins σ H1 { s1 with heap:=(s1.heap.push (keyItObj d es.size ep)).push (enumObj s1.heap.objs.size) }:=I1.kept (t':=s1.toks) kp
  refine⟨s1.heap.objs.size+1,[s1.heap.objs.size+1,s1.heap.objs.size],_,_,H1,rfl,I2,zmL (kvs:=kvs) (s1.heap.objs.size+1) s1.heap.objs.size hdt (Nat.ne_of_lt hdl) (Nat.ne_of_gt (Nat.lt_succ_of_lt hdl)),⟨⟨.none,he⟩,⟨_,Heap.get?_push_of_some _ (Heap.get?_push_size _ rfl),rfl,?_⟩,Nat.succ_ne_self _⟩,λb hb=>?_,q⟩
  ·rw[←hsz];rfl
  ·have e':b=s1.heap.objs.size+1∨b=s1.heap.objs.size:=by simpa using hb
   have hle:s1.heap.objs.size≤b:=by
    rcases e' with z|z
    ·rw[z];exact Nat.le_add_right _ _
    ·rw[z];exact Nat.le_refl _
   exact I1.fpOk hle (I1.hok.fresh hle)
end L2
end
section
namespace Pd
open Vbpoan
structure Cand where
 d:Nat
 kept:Nat
 size:Nat
 turn:Nat
 code:Nat
def bump (c:Nat):List (Nat×Nat)→List (Nat×Nat)
 | []=>[(c,1)]
 | (x,m)::r=>if x=c then (x,m+1)::r else (x,m)::bump c r
def keptD (codes:List Nat) (i:Nat) (t:Bool):Nat→List (Nat×Nat)
 | 0=>[]
 | n+1=>if codes.getD (i+n) 0≠0∧¬ (t=true∧codes.getD (i+n) 0=codes.getD i 0) then bump (codes.getD (i+n) 0) (keptD codes i t n) else keptD codes i t n
def blk (codes:List Nat) (i:Nat) (t:Bool) (n:Nat):List (Nat×Nat×Nat×Nat) :=
 ((keptD codes i t n).zipIdx.map λx=>(n,x.2,x.1.1,x.1.2))++[(n,(keptD codes i t n).length,0,0)]
def fits (cap:Nat) (loads:List Nat) (i n:Nat):Bool:=decide (nsum ((loads.drop i).take n)≤cap)
def firstD (cap:Nat) (loads codes:List Nat) (i:Nat) (t:Bool):List (Nat×Nat×Nat×Nat) :=
 ((List.range (loads.length - i)).takeWhile λn=>fits cap loads i (n+1)).flatMap λn=>blk codes i t (n+1)
def behind (codes:List Nat) (i:Nat) (t:Bool) (e c:Nat):Bool :=
 if e=codes.length∨codes.getD e 0=0 then false else decide (codes.getD e 0=c) || (t && decide (codes.getD e 0=codes.getD i 0))
def pick (x:Cand×Cand) (t:Bool):Cand:=if t=true then x.2 else x.1
def noC:Cand:=⟨0,0,0,0,0⟩
def candOf (codes:List Nat) (r:List (Cand×Cand)) (i:Nat) (t:Bool) (x:Nat×Nat×Nat×Nat):Cand :=
 let rest:=pick (r.getD (x.1 - 1) (noC,noC)) (behind codes i t (i+x.1) x.2.2.1)
 ⟨rest.d+1,rest.kept+x.2.2.2,x.1,x.2.1,x.2.2.1⟩
def candLt (x y:Cand):Prop:=x.d < y.d∨(x.d=y.d∧(y.kept < x.kept∨(x.kept=y.kept∧(y.size < x.size∨(x.size=y.size∧(x.turn < y.turn∨(x.turn=y.turn∧x.code < y.code)))))))
instance (x y:Cand):Decidable (candLt x y):=by unfold candLt;infer_instance
def best1:List Cand→Cand
 | []=>noC
 | x::l=>l.foldl (λb y=>if candLt y b then y else b) x
def tab (cap:Nat) (loads codes:List Nat):Nat→Nat→List (Cand×Cand)
 | 0,_=>[(noC,noC)]
 | f+1,i=>let r:=tab cap loads codes f (i+1)
  (best1 ((firstD cap loads codes i false).map (candOf codes r i false)),best1 ((firstD cap loads codes i true).map (candOf codes r i true)))::r
def walk (codes:List Nat):Nat→Nat→Bool→List (Cand×Cand)→List (Nat×Nat)
 | 0,_,_,_=>[]
 | f+1,i,t,rows=>match rows with
  | []=>[]
  | x::r=>if codes.length≤i then [] else
   ((pick x t).size,(pick x t).code)::walk codes f (i+(pick x t).size) (behind codes i t (i+(pick x t).size) (pick x t).code) ((x::r).drop (pick x t).size)
structure DsOk (codes:List Nat) (ds:List (Nat×Nat×Nat)):Prop where
 cover:∀(p c:Nat),codes[p]?=some c→c≠0→∃(j b m:Nat),ds[j]?=some (c,b,m)∧b≤p∧p < b+m
 mem:∀(j c b m:Nat),ds[j]?=some (c,b,m)→c≠0∧0 < m∧∀(p:Nat),b≤p→p < b+m→codes[p]?=some c
 sorted:∀(j j' c b m c' b' m':Nat),ds[j]?=some (c,b,m)→ds[j']?=some (c',b',m')→j < j'→b+m≤b'
 inj:∀(j j' c b m b' m':Nat),ds[j]?=some (c,b,m)→ds[j']?=some (c,b',m')→j=j'
structure Flag (codes:List Nat) (ds:List (Nat×Nat×Nat)) (i k:Nat) (t:Bool):Prop where
 yes:t=true→∃(j c b m:Nat),ds[j]?=some (c,b,m)∧b≤i∧i < b+m∧k=j+1
 no:t=false→∀(j c b m:Nat),ds[j]?=some (c,b,m)→i < b+m→k≤j
section
variable {codes:List Nat} {ds:List (Nat×Nat×Nat)}
theorem zop {p c:Nat} (h:codes[p]?=some c):codes.getD p 0=c:=by
 rw[List.getD_eq_getElem?_getD,h];rfl
theorem zja {p:Nat} (h:p < codes.length):codes[p]?=some (codes.getD p 0):=by
 rw[List.getD_eq_getElem?_getD,List.getElem?_eq_getElem h];rfl
theorem zo4 {p c:Nat} (h:codes[p]?=some c):p < codes.length:=(List.getElem?_eq_some_iff.mp h).1
theorem DsOk.in_le (D:DsOk codes ds) {j c b m:Nat} (h:ds[j]?=some (c,b,m)):b+m≤codes.length:=by
 obtain⟨_,hm,q⟩:=D.mem j c b m h
 have:=zo4 (q (b+m - 1) (by omega) (by omega))
 omega
theorem DsOk.zeb (D:DsOk codes ds) {j c b m p:Nat} (h:ds[j]?=some (c,b,m)) (h1:b≤p) (h2:p < b+m):codes.getD p 0=c:=zop ((D.mem j c b m h).2.2 p h1 h2)
theorem DsOk.mono (D:DsOk codes ds) {j j' c b m c' b' m':Nat} (h:ds[j]?=some (c,b,m)) (h':ds[j']?=some (c',b',m')) (q:b < b'+m'):j≤j':=by
 by_cases e:j≤j'
 ·exact e
 ·have:=D.sorted j' j c' b' m' c b m h' h (by omega)
  omega
def metAt (ds:List (Nat×Nat×Nat)) (i k n j:Nat):Option (Nat×Nat):=match ds[j]? with
 | some d=>if k≤j∧0 < overlap i n d.2.1 d.2.2 then some (d.1,overlap i n d.2.1 d.2.2) else none
 | none=>none
def met (ds:List (Nat×Nat×Nat)) (i k n:Nat):List (Nat×Nat):=(List.range ds.length).filterMap (metAt ds i k n)
theorem zaR {i k n j c b m:Nat} (h:ds[j]?=some (c,b,m)):metAt ds i k n j=if k≤j∧0 < overlap i n b m then some (c,overlap i n b m) else none:=by
 unfold metAt;rw[h]
theorem zdk {α β:Type} {f:α→Option β}:∀{l:List α},(∀x∈l,f x=none)→l.filterMap f=[]
 | [],_=>rfl
 | x::l,h=>by
  rw[List.filterMap_cons,h x (List.mem_cons_self)]
  exact zdk λy hy=>h y (List.mem_cons_of_mem _ hy)
theorem zcu {α β:Type} {f g:α→Option β}:∀{l:List α},(∀x∈l,f x=g x)→l.filterMap f=l.filterMap g
 | [],_=>rfl
 | x::l,h=>by
  rw[List.filterMap_cons,List.filterMap_cons,h x (List.mem_cons_self),zcu λy hy=>h y (List.mem_cons_of_mem _ hy)]
theorem zmD {c:Nat}:∀{l:List (Nat×Nat)},(∀x∈l,x.1≠c)→bump c l=l++[(c,1)]
 | [],_=>rfl
 | (x,m)::r,h=>by
  have hx:¬ x=c:=h (x,m) (List.mem_cons_self)
  show (if x=c then _ else _)=_
  rw[if_neg hx,zmD λy hy=>h y (List.mem_cons_of_mem _ hy)];rfl
theorem zl6 {c o:Nat}:∀{l:List (Nat×Nat)},(∀x∈l,x.1≠c)→bump c (l++[(c,o)])=l++[(c,o+1)]
 | [],_=>by show (if c=c then _ else _)=_;rw[if_pos rfl];rfl
 | (x,m)::r,h=>by
  have hx:¬ x=c:=h (x,m) (List.mem_cons_self)
  show (if x=c then _ else (x,m)::bump c (r++[(c,o)]))=_
  rw[if_neg hx,zl6 λy hy=>h y (List.mem_cons_of_mem _ hy)];rfl
theorem zkN (D:DsOk codes ds) {i k n j c b m:Nat} (h:ds[j]?=some (c,b,m)) (hn:i+n≤b+m) :
  met ds i k n=(List.range j).filterMap (metAt ds i k n)++(metAt ds i k n j).toList:=by
 have hj:j < ds.length:=(List.getElem?_eq_some_iff.mp h).1
 have e:List.range ds.length=List.range (j+1)++(List.range (ds.length - (j+1))).map (λx=>(j+1)+x):=by
  rw[←List.range_add];congr 1;omega
 unfold met
 rw[e,List.filterMap_append,List.range_succ,List.filterMap_append,zdk (l:=List.map _ _),List.append_nil]
 ·rw[List.filterMap_cons,List.filterMap_nil]
  cases metAt ds i k n j<;>rfl
 ·intro x hx
  obtain⟨y,_,rfl⟩:=List.mem_map.mp hx
  cases q:ds[j+1+y]? with
  | none=>unfold metAt;rw[q]
  | some d =>
   obtain⟨c',b',m'⟩:=d
   have:=D.sorted j (j+1+y) c b m c' b' m' h q (by omega)
   rw[zaR q,if_neg]
   unfold overlap
   omega
theorem zo1 (D:DsOk codes ds) {i k:Nat} {t:Bool} (F:Flag codes ds i k t):∀n,i+n≤codes.length→met ds i k n=keptD codes i t n
 | 0,_=>by
  unfold met keptD
  refine zdk λj _=>?_
  cases q:ds[j]? with
  | none=>unfold metAt;rw[q]
  | some d =>
   obtain⟨c,b,m⟩:=d
   rw[zaR q,if_neg]
   unfold overlap
   omega
 | n+1,hn=>by
  have ih:=zo1 D F n (by omega)
  have hp:=zja (codes:=codes) (p:=i+n) (by omega)
  by_cases hc:codes.getD (i+n) 0=0
  ·unfold keptD
   rw[if_neg (λz=>z.1 hc),←ih]
   unfold met
   refine zcu λj _=>?_
   cases q:ds[j]? with
   | none=>unfold metAt;rw[q]
   | some d =>
    obtain⟨c,b,m⟩:=d
    have hq:¬ (b≤i+n∧i+n < b+m):=λz=>(D.mem j c b m q).1 ((D.zeb q z.1 z.2).symm.trans hc)
    have e:overlap i (n+1) b m=overlap i n b m:=by unfold overlap;omega
    rw[zaR q,zaR q,e]
  ·obtain⟨j,b,m,hj,h1,h2⟩:=D.cover _ _ hp hc
   have low:∀x∈List.range j,metAt ds i k (n+1) x=metAt ds i k n x:=λx hx=>by
    have hx:=List.mem_range.mp hx
    cases q:ds[x]? with
    | none=>unfold metAt;rw[q]
    | some d =>
     obtain⟨c',b',m'⟩:=d
     have:=D.sorted x j c' b' m' _ b m q hj hx
     have e:overlap i (n+1) b' m'=overlap i n b' m':=by unfold overlap;omega
     rw[zaR q,zaR q,e]
   have eo:overlap i (n+1) b m=overlap i n b m+1:=by unfold overlap;omega
   rw[zkN D hj (by omega),zcu low,zaR hj,eo]
   rw[zkN D hj (by omega),zaR hj] at ih
   by_cases ht:t=true∧codes.getD (i+n) 0=codes.getD i 0
   ·have hk:¬ k≤j:=by
     obtain⟨j0,c0,b0,m0,q0,g1,g2,g3⟩:=F.yes ht.1
     have e0:=D.zeb q0 g1 g2
     have ej:j0=j:=D.inj j0 j _ b0 m0 b m (by rw[q0,←e0,←ht.2]) hj
     omega
    unfold keptD
    rw[if_neg (λz=>hk z.1),if_neg (λz=>z.2 ht)]
    rw[if_neg (λz=>hk z.1)] at ih
    exact ih
   ·have hk:k≤j:=by
     cases t with
     | false=>exact F.no rfl j _ b m hj (by omega)
     | true =>
      obtain⟨j0,c0,b0,m0,q0,g1,g2,g3⟩:=F.yes rfl
      have e0:=D.zeb q0 g1 g2
      have hne:j0≠j:=λz=>ht ⟨rfl,by
       subst z
       rw[hj] at q0
       have:=congrArg (λo=>(o.getD (0,0,0)).1) q0
       rw[e0];exact this⟩
      have:=D.mono q0 hj (by omega)
      omega
    unfold keptD
    rw[if_pos ⟨hk,by omega⟩,if_pos ⟨hc,ht⟩,←ih]
    have fresh:∀x∈(List.range j).filterMap (metAt ds i k n),x.1≠codes.getD (i+n) 0:=λx hx=>by
     obtain⟨y,hy,e⟩:=List.mem_filterMap.mp hx
     have hy:=List.mem_range.mp hy
     cases q:ds[y]? with
     | none=>unfold metAt at e;rw[q] at e;cases e
     | some d =>
      obtain⟨c',b',m'⟩:=d
      rw[zaR q] at e
      split at e
      ·have e:=Option.some.inj e
       subst e
       intro z
       have z:c'=codes.getD (i+n) 0:=z
       subst z
       have:=D.inj y j _ b' m' b m q hj
       omega
      ·cases e
    by_cases ho:0 < overlap i n b m
    ·rw[if_pos ⟨hk,ho⟩]
     exact(zl6 fresh).symm
    ·rw[if_neg (λz=>ho z.2)]
     have z:overlap i n b m=0:=by omega
     rw[z]
     show _++[_]=bump _ (_++[])
     rw[List.append_nil]
     exact(zmD fresh).symm
theorem Flag.old (D:DsOk codes ds) {i k n j c b m:Nat} {t:Bool} (F:Flag codes ds i k t) (hn:0 < n) (hl:i+n≤codes.length) (hj:ds[j]?=some (c,b,m)) (hk:k≤j) (ho:0 < overlap i n b m) :
  Flag codes ds (i+n) (j+1) (behind codes i t (i+n) c):=by
 have hb:b < i+n:=by unfold overlap at ho;omega
 have hbm:i < b+m:=by unfold overlap at ho;omega
 by_cases he:i+n=codes.length∨codes.getD (i+n) 0=0
 ·have e:behind codes i t (i+n) c=false:=by unfold behind;rw[if_pos he]
  rw[e]
  refine⟨(λz=>nomatch z),λ_ j' c' b' m' hj' h=>?_⟩
  have hle:=D.in_le hj'
  rcases he with he|he
  ·omega
  ·have:=D.mono hj hj' (by omega)
   have:j≠j':=λz=>by
    subst z
    rw[hj] at hj'
    have z:=Option.some.inj hj'
    cases z
    exact(D.mem _ _ _ _ hj).1 ((D.zeb hj (p:=i+n) (by omega) h).symm.trans he)
   omega
 ·have hlt:i+n < codes.length:=by omega
  have hc:codes.getD (i+n) 0≠0:=λz=>he (.inr z)
  obtain⟨je,be,me,hje,g1,g2⟩:=D.cover _ _ (zja hlt) hc
  have hjje:j≤je:=D.mono hj hje (by omega)
  have e:behind codes i t (i+n) c=(decide (codes.getD (i+n) 0=c) || (t && decide (codes.getD (i+n) 0=codes.getD i 0))):=by unfold behind;rw[if_neg he]
  by_cases h1:codes.getD (i+n) 0=c
  ·rw[e,decide_eq_true h1,Bool.true_or]
   refine⟨λ_=>?_,λz=>nomatch z⟩
   have ej:je=j:=D.inj je j c be me b m (by rw[hje,h1]) hj
   subst ej
   exact⟨je,_,be,me,hje,g1,g2,rfl⟩
  ·have hne:j≠je:=λz=>by
    subst z
    rw[hj] at hje
    have z:=Option.some.inj hje
    cases z
    exact h1 rfl
   have e2:(t && decide (codes.getD (i+n) 0=codes.getD i 0))=false:=by
    cases t with
    | false=>rfl
    | true =>
     rw[Bool.true_and]
     refine decide_eq_false λz=>?_
     obtain⟨j0,c0,b0,m0,q0,k1,k2,k3⟩:=F.yes rfl
     have e0:=D.zeb q0 k1 k2
     have:je=j0:=D.inj je j0 c0 be me b0 m0 (by rw[hje,z,e0]) q0
     omega
   rw[e,decide_eq_false h1,e2]
   refine⟨(λz=>nomatch z),λ_ j' c' b' m' hj' h=>?_⟩
   have:=D.mono hje hj' (by omega)
   omega
theorem Flag.new (D:DsOk codes ds) {i k n:Nat} {t:Bool} (F:Flag codes ds i k t) (hn:0 < n) (hl:i+n≤codes.length) :
  Flag codes ds (i+n) k (behind codes i t (i+n) 0):=by
 by_cases he:i+n=codes.length∨codes.getD (i+n) 0=0
 ·have e:behind codes i t (i+n) 0=false:=by unfold behind;rw[if_pos he]
  rw[e]
  refine⟨(λz=>nomatch z),λ_ j' c' b' m' hj' h=>?_⟩
  have hle:=D.in_le hj'
  rcases he with he|he
  ·omega
  ·cases t with
   | false=>exact F.no rfl j' c' b' m' hj' (by omega)
   | true =>
    obtain⟨j0,c0,b0,m0,q0,k1,k2,k3⟩:=F.yes rfl
    have:=D.mono q0 hj' (by omega)
    have:j0≠j':=λz=>by
     subst z
     rw[q0] at hj'
     have z:=Option.some.inj hj'
     cases z
     exact(D.mem _ _ _ _ q0).1 ((D.zeb q0 (p:=i+n) (by omega) h).symm.trans he)
    omega
 ·have hlt:i+n < codes.length:=by omega
  have hc:codes.getD (i+n) 0≠0:=λz=>he (.inr z)
  obtain⟨je,be,me,hje,g1,g2⟩:=D.cover _ _ (zja hlt) hc
  have e:behind codes i t (i+n) 0=(t && decide (codes.getD (i+n) 0=codes.getD i 0)):=by
   unfold behind;rw[if_neg he,decide_eq_false hc,Bool.false_or]
  rw[e]
  cases t with
  | false=>exact⟨(λz=>nomatch z),λ_ j' c' b' m' hj' h=>F.no rfl j' c' b' m' hj' (by omega)⟩
  | true =>
   obtain⟨j0,c0,b0,m0,q0,k1,k2,k3⟩:=F.yes rfl
   have e0:=D.zeb q0 k1 k2
   rw[Bool.true_and]
   by_cases h1:codes.getD (i+n) 0=codes.getD i 0
   ·rw[decide_eq_true h1]
    have:je=j0:=D.inj je j0 c0 be me b0 m0 (by rw[hje,h1,e0]) q0
    subst this
    exact⟨λ_=>⟨je,_,be,me,hje,g1,g2,k3⟩,λz=>nomatch z⟩
   ·rw[decide_eq_false h1]
    refine⟨(λz=>nomatch z),λ_ j' c' b' m' hj' h=>?_⟩
    have:=D.mono hje hj' (by omega)
    have:=D.mono q0 hje (by omega)
    have:j0≠je:=λz=>by
     subst z
     rw[hje] at q0
     have z:=Option.some.inj q0
     exact h1 (by rw[e0];exact congrArg (·.1) z)
    omega
end
end Pd
end
section
namespace Pd
open Vbpoan
theorem zdX {p:Nat→Bool} (h:∀a b,a≤b→p b=true→p a=true):∀n,(List.range n).takeWhile p=(List.range n).filter p
 | 0=>rfl
 | n+1=>by
  have ih:=zdX h n
  rw[List.range_succ,List.filter_append,List.takeWhile_append]
  by_cases hp:p n=true
  ·have all:∀a∈List.range n,p a=true:=λa ha=>h a n (Nat.le_of_lt (List.mem_range.mp ha)) hp
   have e:(List.range n).takeWhile p=List.range n:=by rw[ih];exact List.filter_eq_self.mpr all
   rw[if_pos (by rw[e]),List.filter_eq_self.mpr all]
   first
    | done
    | (congr 1;simp[List.takeWhile,List.filter,hp])
    | simp[List.takeWhile,List.filter,hp]
  ·have hp:p n=false:=by simpa using hp
   have e0:[n].filter p=[]:=by simp[List.filter,hp]
   have e1:[n].takeWhile p=[]:=by simp[List.takeWhile,hp]
   rw[e0,e1,List.append_nil,List.append_nil,←ih]
   split
   ·rename_i hq
    have hs:(List.range n).takeWhile p <+: List.range n:=List.takeWhile_prefix _
    exact(hs.eq_of_length (by simpa using hq)).symm
   ·rfl
theorem zmI {α β:Type} (g:Nat→α→β) (d:α) (K:List α):(K.zipIdx.map λx=>g x.2 x.1)++[g K.length d]=(List.range (K.length+1)).map λi=>g i (K.getD i d):=by
 apply List.ext_getElem?
 intro i
 by_cases h:i < K.length
 ·rw[List.getElem?_append_left (by simpa using h),List.getElem?_map,List.getElem?_map,List.getElem?_range (by omega),List.getElem?_zipIdx,List.getElem?_eq_getElem h]
  simp[List.getD_eq_getElem?_getD,List.getElem?_eq_getElem h]
 ·by_cases e:i=K.length
  ·subst e
   rw[List.getElem?_append_right (by simp),List.getElem?_map,List.getElem?_range (by omega)]
   simp[List.getD_eq_getElem?_getD]
  ·rw[List.getElem?_eq_none (by simp;omega),List.getElem?_eq_none (by simp;omega)]
theorem zqu {α β:Type} (g:α→β) (d:β) (J:List α):J.map g++[d]=(List.range (J.length+1)).map λi=>(J[i]?.map g).getD d:=by
 apply List.ext_getElem?
 intro i
 by_cases h:i < J.length
 ·rw[List.getElem?_append_left (by simpa using h),List.getElem?_map,List.getElem?_map,List.getElem?_range (by omega),List.getElem?_eq_getElem h]
  simp[List.getElem?_eq_getElem h]
 ·by_cases e:i=J.length
  ·subst e
   rw[List.getElem?_append_right (by simp),List.getElem?_map,List.getElem?_range (by omega)]
   simp
  ·rw[List.getElem?_eq_none (by simp;omega),List.getElem?_eq_none (by simp;omega)]
theorem zjb {α:Type} {R:α→α→Prop} {p:α→Bool}:∀{l:List α} {x y:α},l.Pairwise R→l.find? p=some x→y∈l→p y=true→x=y∨R x y
 | [],_,_,_,h,_,_=>by cases h
 | a::l,x,y,hw,h,hy,hp=>by
  rw[List.pairwise_cons] at hw
  rw[List.find?_cons] at h
  split at h
  ·have h:=Option.some.inj h
   subst h
   rcases List.mem_cons.mp hy with e|e
   ·exact .inl e.symm
   ·exact .inr (hw.1 y e)
  ·rename_i hn
   rcases List.mem_cons.mp hy with e|e
   ·subst e;rw[hp] at hn;cases hn
   ·exact zjb hw.2 h e hp
theorem zis:∀(l:List Cand) (b:Cand),(l.foldl (λb y=>if candLt y b then y else b) b=b∨l.foldl (λb y=>if candLt y b then y else b) b∈l)∧
  ¬ candLt b (l.foldl (λb y=>if candLt y b then y else b) b)∧∀x∈l,¬ candLt x (l.foldl (λb y=>if candLt y b then y else b) b)
 | [],b=>⟨.inl rfl,by show ¬ candLt b b;unfold candLt;omega,λx h=>nomatch h⟩
 | y::l,b=>by
  rw[List.foldl_cons]
  by_cases h:candLt y b
  ·rw[if_pos h]
   obtain⟨h1,h2,h3⟩:=zis l y
   refine⟨.inr ?_,λz=>h2 ?_,λx hx=>?_⟩
   ·rcases h1 with e|e
    ·rw[e];exact List.mem_cons_self
    ·exact List.mem_cons_of_mem _ e
   ·revert z h
    unfold candLt
    omega
   ·rcases List.mem_cons.mp hx with e|e
    ·rw[e];exact h2
    ·exact h3 x e
  ·rw[if_neg h]
   obtain⟨h1,h2,h3⟩:=zis l b
   refine⟨?_,h2,λx hx=>?_⟩
   ·rcases h1 with e|e
    ·exact .inl e
    ·exact .inr (List.mem_cons_of_mem _ e)
   ·rcases List.mem_cons.mp hx with e|e
    ·rw[e]
     intro z
     revert h2 z h
     unfold candLt
     omega
    ·exact h3 x e
theorem zpU {l:List Cand} (h:l≠[]):best1 l∈l∧∀x∈l,¬ candLt x (best1 l):=by
 cases l with
 | nil=>exact(h rfl).elim
 | cons x l =>
  obtain⟨h1,h2,h3⟩:=zis l x
  refine⟨?_,λy hy=>?_⟩
  ·rcases h1 with e|e
   ·show l.foldl _ x∈_
    rw[e];exact List.mem_cons_self
   ·exact List.mem_cons_of_mem _ e
  ·rcases List.mem_cons.mp hy with e|e
   ·rw[e];exact h2
   ·exact h3 y e
theorem zlk:∀{l:List (Option Worth)},(∀x∈l,∃w,x=some w)→l≠[]→∃w,bestOf l=some w∧some w∈l∧∀v,some v∈l→betterWorth v w=false
 | [],_,h=>(h rfl).elim
 | x::l,hs,_=>by
  obtain⟨w,rfl⟩:=hs x List.mem_cons_self
  by_cases hl:l=[]
  ·subst hl
   refine⟨w,rfl,List.mem_cons_self,λv hv=>?_⟩
   rcases List.mem_cons.mp hv with e|e
   ·cases e
    unfold betterWorth
    simp
   ·cases e
  ·obtain⟨v,h1,h2,h3⟩:=zlk (λy hy=>hs y (List.mem_cons_of_mem _ hy)) hl
   unfold bestOf
   rw[h1]
   by_cases hb:betterWorth v w=true
   ·refine⟨v,by simp[hb],List.mem_cons_of_mem _ h2,λu hu=>?_⟩
    rcases List.mem_cons.mp hu with e|e
    ·cases e
     revert hb
     unfold betterWorth
     simp
     omega
    ·exact h3 u e
   ·refine⟨w,by simp[hb],List.mem_cons_self,λu hu=>?_⟩
    rcases List.mem_cons.mp hu with e|e
    ·cases e
     unfold betterWorth
     simp
    ·have:=h3 u e
     revert this hb
     unfold betterWorth
     simp
     omega
theorem zhk (cap:Nat) (loads:List Nat) (ds:List (Nat×Nat×Nat)):∀(m f i:Nat),m≤f→(table cap loads ds f i).getD m []=(table cap loads ds (f - m) (i+m)).headD []
 | 0,f,i,_=>by
  cases f with
  | zero=>rfl
  | succ f=>rfl
 | m+1,0,i,h=>by omega
 | m+1,f+1,i,h=>by
  have ih:=zhk cap loads ds m f (i+1) (by omega)
  show (table cap loads ds f (i+1)).getD m []=_
  rw[ih]
  have e1:f+1 - (m+1)=f - m:=by omega
  have e2:i+(m+1)=i+1+m:=by omega
  rw[e1,e2]
theorem zji (cap:Nat) (loads codes:List Nat):∀(m f i:Nat),m≤f→(tab cap loads codes f i).getD m (noC,noC)=(tab cap loads codes (f - m) (i+m)).headD (noC,noC)
 | 0,f,i,_=>by
  cases f with
  | zero=>rfl
  | succ f=>rfl
 | m+1,0,i,h=>by omega
 | m+1,f+1,i,h=>by
  have ih:=zji cap loads codes m f (i+1) (by omega)
  show (tab cap loads codes f (i+1)).getD m (noC,noC)=_
  rw[ih]
  have e1:f+1 - (m+1)=f - m:=by omega
  have e2:i+(m+1)=i+1+m:=by omega
  rw[e1,e2]
theorem zjj (cap:Nat) (loads codes:List Nat):∀(m f i:Nat),m≤f→(tab cap loads codes f i).drop m=tab cap loads codes (f - m) (i+m)
 | 0,f,i,_=>rfl
 | m+1,0,i,h=>by omega
 | m+1,f+1,i,h=>by
  have ih:=zjj cap loads codes m f (i+1) (by omega)
  show (tab cap loads codes f (i+1)).drop m=_
  rw[ih]
  have e1:f+1 - (m+1)=f - m:=by omega
  have e2:i+(m+1)=i+1+m:=by omega
  rw[e1,e2]
theorem ziZ (cap:Nat) (loads:List Nat) (ds:List (Nat×Nat×Nat)):∀(m f i:Nat),m≤f→(table cap loads ds f i).drop m=table cap loads ds (f - m) (i+m)
 | 0,f,i,_=>rfl
 | m+1,0,i,h=>by omega
 | m+1,f+1,i,h=>by
  have ih:=ziZ cap loads ds m f (i+1) (by omega)
  show (table cap loads ds f (i+1)).drop m=_
  rw[ih]
  have e1:f+1 - (m+1)=f - m:=by omega
  have e2:i+(m+1)=i+1+m:=by omega
  rw[e1,e2]
theorem zc1 (a:Nat) (l:List Nat):nsum (a::l)=a+nsum l:=rfl
theorem zdH:∀(l m:List Nat),nsum (l++m)=nsum l+nsum m
 | [],m=>by show nsum m=0+nsum m;omega
 | a::l,m=>by
  show nsum (a::(l++m))=nsum (a::l)+nsum m
  rw[zc1,zc1,zdH l m];omega
theorem ziE (l:List Nat) {a b:Nat} (h:a≤b):nsum (l.take a)≤nsum (l.take b):=by
 have e:l.take b=l.take a++(l.drop a).take (b - a):=by
  conv=>lhs;rw[show b=a+(b - a) by omega]
  rw[List.take_add]
 rw[e,zdH];omega
theorem zot {cap:Nat} {loads:List Nat} {i a b:Nat} (h:a≤b) (q:fits cap loads i b=true):fits cap loads i a=true:=by
 unfold fits at *
 have:=ziE (loads.drop i) h
 have:=of_decide_eq_true q
 exact decide_eq_true (by omega)
section
variable (cap:Nat) (loads codes:List Nat) (ds:List (Nat×Nat×Nat)) (i k:Nat) (t:Bool)
def sizes:List Nat:=((List.range (loads.length - i)).filter λn=>fits cap loads i (n+1)).map (· + 1)
def idxOf (l:List Nat):List (Nat×Nat):=l.flatMap λn=>(List.range ((keptD codes i t n).length+1)).map λu=>(n,u)
def jl (n:Nat):List Nat:=(List.range ds.length).filter λj=>(metAt ds i k n j).isSome
def ovl (n j:Nat):Nat:=overlap i n (ds.getD j (0,0,0)).2.1 (ds.getD j (0,0,0)).2.2
def specCh (x:Nat×Nat):Choice:=((jl ds i k x.1)[x.2]?.map λj=>(⟨x.1,some j,ovl ds i x.1 j⟩:Choice)).getD ⟨x.1,none,0⟩
def prog (x:Nat×Nat):Nat×Nat×Nat×Nat:=(x.1,x.2,((keptD codes i t x.1).getD x.2 (0,0)).1,((keptD codes i t x.1).getD x.2 (0,0)).2)
theorem zou:firstD cap loads codes i t=(idxOf codes i t (sizes cap loads i)).map (prog codes i t):=by
 unfold firstD idxOf sizes
 rw[zdX (p:=λn=>fits cap loads i (n+1)) (λa b h q=>zot (by omega) q),List.flatMap_map,List.map_flatMap]
 congr 1
 funext n
 unfold blk
 rw[List.map_map]
 exact zmI (λu x=>(n+1,u,x.1,x.2)) (0,0) (keptD codes i t (n+1))
theorem zqy (n:Nat):((List.range ds.length).filterMap λj=>match ds[j]? with
   | some d=>let o:=overlap i n d.2.1 d.2.2;if k≤j∧0 < o then some (⟨n,some j,o⟩:Choice) else none
   | none=>none)=(jl ds i k n).map λj=>⟨n,some j,ovl ds i n j⟩:=by
 unfold jl
 induction List.range ds.length with
 | nil=>rfl
 | cons j l ih =>
  rw[List.filterMap_cons,List.filter_cons,ih]
  cases q:ds[j]? with
  | none =>
   have e:metAt ds i k n j=none:=by unfold metAt;rw[q]
   simp[e]
  | some d =>
   obtain⟨c,b,m⟩:=d
   have e:=zaR (i:=i) (k:=k) (n:=n) q
   have eo:ovl ds i n j=overlap i n b m:=by unfold ovl;rw[List.getD_eq_getElem?_getD,q];rfl
   by_cases h:k≤j∧0 < overlap i n b m
   ·rw[if_pos h] at e
    simp[e,h,eo]
   ·rw[if_neg h] at e
    simp[e,h]
theorem zq0 (n:Nat):met ds i k n=(jl ds i k n).map λj=>((ds.getD j (0,0,0)).1,ovl ds i n j):=by
 unfold jl met
 induction List.range ds.length with
 | nil=>rfl
 | cons j l ih =>
  rw[List.filterMap_cons,List.filter_cons,ih]
  cases q:ds[j]? with
  | none =>
   have e:metAt ds i k n j=none:=by unfold metAt;rw[q]
   simp[e]
  | some d =>
   obtain⟨c,b,m⟩:=d
   have e:=zaR (i:=i) (k:=k) (n:=n) q
   have eo:ovl ds i n j=overlap i n b m:=by unfold ovl;rw[List.getD_eq_getElem?_getD,q];rfl
   have ec:(ds.getD j (0,0,0)).1=c:=by rw[List.getD_eq_getElem?_getD,q];rfl
   by_cases h:k≤j∧0 < overlap i n b m
   ·rw[if_pos h] at e
    simp only[e,Option.isSome_some,if_true,List.map_cons,eo,ec]
   ·rw[if_neg h] at e
    simp[e]
variable {cap loads codes ds i k t}
theorem zni (hl:loads.length=codes.length) (D:DsOk codes ds) (F:Flag codes ds i k t):choices cap loads ds i k=(idxOf codes i t (sizes cap loads i).reverse).map (specCh ds i k):=by
 unfold choices idxOf sizes
 rw[←List.map_reverse,List.flatMap_map,List.flatMap_map,List.map_flatMap,←List.filter_reverse]
 have key:∀l:List Nat,(∀x∈l,i+(x+1)≤codes.length)→(l.flatMap λx=>if fitsCap cap loads i (x+1)=false then [] else
   ((
    List.range ds.length).filterMap λj=>match ds[j]? with
    | some d=>let o:=overlap i (x+1) d.2.1 d.2.2;if k≤j∧0 < o then some (⟨x+1,some j,o⟩:Choice) else none
    | none=>none)++[⟨x+1,none,0⟩]) =
   (l.filter λn=>fits cap loads i (n+1)).flatMap λn=>((List.range ((keptD codes i t (n+1)).length+1)).map λu=>(n+1,u)).map (specCh ds i k):=by
  intro l
  induction l with
  | nil=>intro _;rfl
  | cons x l ih =>
   intro hx
   have ih:=ih λy hy=>hx y (List.mem_cons_of_mem _ hy)
   have hx:=hx x List.mem_cons_self
   rw[List.flatMap_cons,ih,List.filter_cons]
   by_cases hf:fits cap loads i (x+1)=true
   ·have hf':¬ fitsCap cap loads i (x+1)=false:=by
     have:fitsCap cap loads i (x+1)=fits cap loads i (x+1):=rfl
     rw[this,hf];decide
    rw[if_neg hf',if_pos hf,List.flatMap_cons,zqy,zqu]
    congr 1
    rw[List.map_map,←zo1 D F (x+1) hx,zq0,List.length_map]
    rfl
   ·have hf':fitsCap cap loads i (x+1)=false:=by
     have:fitsCap cap loads i (x+1)=fits cap loads i (x+1):=rfl
     rw[this];simpa using hf
    rw[if_pos hf',if_neg hf,List.nil_append]
 refine key _ λx hx=>?_
 have:=List.mem_range.mp (List.mem_reverse.mp hx)
 omega
theorem zhQ {l:List Nat} {x:Nat×Nat}:x∈idxOf codes i t l↔x.1∈l∧x.2≤(keptD codes i t x.1).length:=by
 unfold idxOf
 rw[List.mem_flatMap]
 constructor
 ·rintro ⟨n,hn,hx⟩
  obtain⟨u,hu,rfl⟩:=List.mem_map.mp hx
  have:=List.mem_range.mp hu
  exact⟨hn,by show u≤(keptD codes i t n).length;omega⟩
 ·rintro ⟨h1,h2⟩
  exact⟨x.1,h1,List.mem_map.mpr ⟨x.2,List.mem_range.mpr (by omega),rfl⟩⟩
theorem zhN {n:Nat}:n∈sizes cap loads i↔0 < n∧i+n≤loads.length∧fits cap loads i n=true:=by
 unfold sizes
 rw[List.mem_map]
 constructor
 ·rintro ⟨x,hx,rfl⟩
  obtain⟨h1,h2⟩:=List.mem_filter.mp hx
  have:=List.mem_range.mp h1
  exact⟨by omega,by omega,h2⟩
 ·rintro ⟨h1,h2,h3⟩
  refine⟨n - 1,List.mem_filter.mpr ⟨List.mem_range.mpr (by omega),?_⟩,by omega⟩
  rw[show n - 1+1=n by omega];exact h3
def before (x y:Nat×Nat):Prop:=y.1 < x.1∨(x.1=y.1∧x.2 < y.2)
theorem zmM:(sizes cap loads i).reverse.Pairwise λa b=>b < a:=by
 rw[List.pairwise_reverse]
 unfold sizes
 rw[List.pairwise_map]
 refine List.Pairwise.imp (R:=λa b=>a < b) (λh=>by omega) ?_
 exact List.Pairwise.filter _ List.pairwise_lt_range
theorem zn6:(idxOf codes i t (sizes cap loads i).reverse).Pairwise before:=by
 unfold idxOf
 rw[List.pairwise_flatMap]
 refine⟨λn _=>?_,zmM.imp λ{a b} h x hx y hy=>?_⟩
 ·rw[List.pairwise_map]
  exact List.pairwise_lt_range.imp λh=>.inr ⟨rfl,h⟩
 ·obtain⟨u,_,rfl⟩:=List.mem_map.mp hx
  obtain⟨v,_,rfl⟩:=List.mem_map.mp hy
  exact .inl h
end
end Pd
end
section
namespace Pd
open Vbpoan
section
variable {cap:Nat} {loads codes:List Nat} {ds:List (Nat×Nat×Nat)}
def headC (cap:Nat) (loads codes:List Nat) (f i:Nat) (t:Bool):Cand:=pick ((tab cap loads codes f i).headD (noC,noC)) t
def worthIs (cap:Nat) (loads codes:List Nat) (ds:List (Nat×Nat×Nat)) (f i k:Nat) (t:Bool):Prop :=
 ((table cap loads ds f i).headD []).getD k none=some ⟨(headC cap loads codes f i t).d,(headC cap loads codes f i t).kept⟩
theorem jl_at {i k n u j:Nat} (h:(jl ds i k n)[u]?=some j):∃c b m,ds[j]?=some (c,b,m)∧k≤j∧0 < overlap i n b m∧ovl ds i n j=overlap i n b m∧(ds.getD j (0,0,0)).1=c:=by
 have hm:=List.mem_of_getElem? h
 unfold jl at hm
 obtain⟨_,h2⟩:=List.mem_filter.mp hm
 cases q:ds[j]? with
 | none=>unfold metAt at h2;rw[q] at h2;cases h2
 | some d =>
  obtain⟨c,b,m⟩:=d
  rw[zaR q] at h2
  split at h2
  ·rename_i hh
   refine⟨c,b,m,rfl,hh.1,hh.2,?_,?_⟩
   ·unfold ovl;rw[List.getD_eq_getElem?_getD,q];rfl
   ·rw[List.getD_eq_getElem?_getD,q];rfl
  ·cases h2
theorem zjZ (D:DsOk codes ds) {i k n u:Nat} {t:Bool} (F:Flag codes ds i k t) (hn:0 < n) (hl:i+n≤codes.length) (hu:u≤(keptD codes i t n).length) :
  (∃j c b m,ds[j]?=some (c,b,m)∧k≤j∧0 < overlap i n b m∧specCh ds i k (n,u)=⟨n,some j,overlap i n b m⟩∧prog codes i t (n,u)=(n,u,c,overlap i n b m)∧Flag codes ds (i+n) (j+1) (behind codes i t (i+n) c))∨
  (specCh ds i k (n,u)=⟨n,none,0⟩∧prog codes i t (n,u)=(n,u,0,0)∧Flag codes ds (i+n) k (behind codes i t (i+n) 0)):=by
 have e:(jl ds i k n).map (λj=>((ds.getD j (0,0,0)).1,ovl ds i n j))=keptD codes i t n:=by rw[←zq0];exact zo1 D F n hl
 cases q:(jl ds i k n)[u]? with
 | some j =>
  obtain⟨c,b,m,h1,h2,h3,h4,h5⟩:=jl_at q
  refine .inl ⟨j,c,b,m,h1,h2,h3,?_,?_,F.old D hn hl h1 h2 h3⟩
  ·unfold specCh
   show (Option.map _ (jl ds i k n)[u]?).getD _=_
   rw[q,Option.map_some,Option.getD_some,h4]
  ·have g:(keptD codes i t n).getD u (0,0)=(c,overlap i n b m):=by
    rw[←e,List.getD_eq_getElem?_getD,List.getElem?_map,q,Option.map_some,Option.getD_some,h4,h5]
   show (n,u,((keptD codes i t n).getD u (0,0)).1,((keptD codes i t n).getD u (0,0)).2)=_
   rw[g]
 | none =>
  refine .inr ⟨?_,?_,F.new D hn hl⟩
  ·unfold specCh
   show (Option.map _ (jl ds i k n)[u]?).getD _=_
   rw[q];rfl
  ·have g:(keptD codes i t n).getD u (0,0)=(0,0):=by
    rw[←e,List.getD_eq_getElem?_getD,List.getElem?_map,q];rfl
   show (n,u,((keptD codes i t n).getD u (0,0)).1,((keptD codes i t n).getD u (0,0)).2)=_
   rw[g]
def cd (cap:Nat) (loads codes:List Nat) (f i:Nat) (t:Bool) (x:Nat×Nat):Cand:=candOf codes (tab cap loads codes f (i+1)) i t (prog codes i t x)
theorem zj0 (hlen:loads.length=codes.length) (D:DsOk codes ds) {f i k:Nat} {t:Bool} (hi:i+(f+1)=loads.length) (F:Flag codes ds i k t) (hk:k≤ds.length)
  (ih:∀f' i' k' t',f'≤f→i'+f'=loads.length→Flag codes ds i' k' t'→k'≤ds.length→worthIs cap loads codes ds f' i' k' t')
  {x:Nat×Nat} (hx:x∈idxOf codes i t (sizes cap loads i)) :
  worthBehind (table cap loads ds f (i+1)) (specCh ds i k x) k=some ⟨(cd cap loads codes f i t x).d,(cd cap loads codes f i t x).kept⟩:=by
 obtain⟨n,u⟩:=x
 obtain⟨h1,h2⟩:=zhQ.mp hx
 obtain⟨hn,hl,_⟩:=zhN.mp h1
 have hn:0 < n:=hn
 have hl:i+n≤loads.length:=hl
 have er:=zhk cap loads ds (n - 1) f (i+1) (by omega)
 have et:=zji cap loads codes (n - 1) f (i+1) (by omega)
 have ei:i+1+(n - 1)=i+n:=by omega
 rw[ei] at er et
 rcases zjZ D F hn (by omega) h2 with ⟨j,c,b,m,g1,g2,g3,g4,g5,g6⟩|⟨g4,g5,g6⟩
 ·have hj:j < ds.length:=(List.getElem?_eq_some_iff.mp g1).1
  have w:=ih (f - (n - 1)) (i+n) (j+1) _ (by omega) (by omega) g6 (by omega)
  unfold worthIs headC at w
  unfold worthBehind cd candOf
  rw[g4,g5]
  show Option.map _ (((table cap loads ds f (i+1)).getD (n - 1) []).getD (j+1) none)=_
  rw[er,w,Option.map_some]
  show _=some (⟨(pick ((tab cap loads codes f (i+1)).getD (n - 1) (noC,noC)) (behind codes i t (i+n) c)).d+1,(pick ((tab cap loads codes f (i+1)).getD (n - 1) (noC,noC)) (behind codes i t (i+n) c)).kept+overlap i n b m⟩:Worth)
  rw[et]
 ·have w:=ih (f - (n - 1)) (i+n) k _ (by omega) (by omega) g6 hk
  unfold worthIs headC at w
  unfold worthBehind cd candOf
  rw[g4,g5]
  show Option.map _ (((table cap loads ds f (i+1)).getD (n - 1) []).getD k none)=_
  rw[er,w,Option.map_some]
  show _=some (⟨(pick ((tab cap loads codes f (i+1)).getD (n - 1) (noC,noC)) (behind codes i t (i+n) 0)).d+1,(pick ((tab cap loads codes f (i+1)).getD (n - 1) (noC,noC)) (behind codes i t (i+n) 0)).kept+0⟩:Worth)
  rw[et]
theorem zok (f i:Nat) (t:Bool):headC cap loads codes (f+1) i t=best1 ((idxOf codes i t (sizes cap loads i)).map (cd cap loads codes f i t)):=by
 have e:∀t,best1 ((firstD cap loads codes i t).map (candOf codes (tab cap loads codes f (i+1)) i t))=best1 ((idxOf codes i t (sizes cap loads i)).map (cd cap loads codes f i t)):=λt=>by
  rw[zou,List.map_map];rfl
 unfold headC
 show pick (best1 _,best1 _) t=_
 rw[e,e]
 cases t<;>rfl
theorem core (hlen:loads.length=codes.length) (D:DsOk codes ds) (hcap:∀l∈loads,l≤cap) {f i k:Nat} {t:Bool} (hi:i+(f+1)=loads.length) (F:Flag codes ds i k t) (hk:k≤ds.length)
  (hw:∀x∈idxOf codes i t (sizes cap loads i),worthBehind (table cap loads ds f (i+1)) (specCh ds i k x) k=some ⟨(cd cap loads codes f i t x).d,(cd cap loads codes f i t x).kept⟩) :
  worthIs cap loads codes ds (f+1) i k t∧∃x,x∈idxOf codes i t (sizes cap loads i)∧headC cap loads codes (f+1) i t=cd cap loads codes f i t x∧
   (choices cap loads ds i k).find? (λc=>sameWorth (worthBehind (table cap loads ds f (i+1)) c k) ((rowAt cap loads ds (table cap loads ds f (i+1)) i).getD k none))=some (specCh ds i k x):=by
 have hne:idxOf codes i t (sizes cap loads i)≠[]:=by
  refine List.ne_nil_of_mem (a:=(1,0)) (zhQ.mpr ⟨zhN.mpr ⟨by show 0 < 1;decide,by show i+1≤_;omega,?_⟩,Nat.zero_le _⟩)
  show fits cap loads i 1=true
  unfold fits
  have hil:i < loads.length:=by omega
  refine decide_eq_true ?_
  rw[List.drop_eq_getElem_cons hil]
  show nsum [loads[i]]≤cap
  have:=hcap _ (List.getElem_mem hil)
  show loads[i]+0≤cap
  omega
 have same:∀{x},x∈idxOf codes i t (sizes cap loads i).reverse↔x∈idxOf codes i t (sizes cap loads i):=by
  intro x
  rw[zhQ,zhQ,List.mem_reverse]
 obtain⟨hb1,hb2⟩:=zpU (l:=(idxOf codes i t (sizes cap loads i)).map (cd cap loads codes f i t)) (by simpa using hne)
 rw[←zok] at hb1 hb2
 obtain⟨x0,hx0,e0⟩:=List.mem_map.mp hb1
 have ec:=zni (cap:=cap) hlen D F
 have erow:(rowAt cap loads ds (table cap loads ds f (i+1)) i).getD k none=bestOf ((choices cap loads ds i k).map λc=>worthBehind (table cap loads ds f (i+1)) c k):=by
  unfold rowAt
  rw[List.getD_eq_getElem?_getD,List.getElem?_map,List.getElem?_range (by omega)]
  rfl
 have all:∀y∈(choices cap loads ds i k).map λc=>worthBehind (table cap loads ds f (i+1)) c k,∃x∈idxOf codes i t (sizes cap loads i),y=some ⟨(cd cap loads codes f i t x).d,(cd cap loads codes f i t x).kept⟩:=λy hy=>by
  rw[ec,List.map_map] at hy
  obtain⟨x,hx,rfl⟩:=List.mem_map.mp hy
  exact⟨x,same.mp hx,hw x (same.mp hx)⟩
 obtain⟨w,w1,w2,w3⟩:=zlk (l:=(choices cap loads ds i k).map λc=>worthBehind (table cap loads ds f (i+1)) c k) (λy hy=>let ⟨x,_,e⟩:=all y hy;⟨_,e⟩) (by
  rw[ec,List.map_map]
  intro z
  have z:=List.map_eq_nil_iff.mp z
  obtain⟨y,hy⟩:=List.exists_mem_of_ne_nil _ hne
  have:=same.mpr hy
  rw[z] at this
  cases this)
 obtain⟨x1,hx1,e1⟩:=all _ w2
 have e1:=Option.some.inj e1
 have m0:(some ⟨(cd cap loads codes f i t x0).d,(cd cap loads codes f i t x0).kept⟩:Option Worth)∈(choices cap loads ds i k).map λc=>worthBehind (table cap loads ds f (i+1)) c k:=by
  rw[ec,List.map_map,←hw x0 hx0]
  exact List.mem_map.mpr ⟨x0,same.mpr hx0,rfl⟩
 have n1:=w3 _ m0
 have n2:=hb2 _ (List.mem_map.mpr ⟨x1,hx1,rfl⟩)
 have eq:(headC cap loads codes (f+1) i t).d=w.districts∧(headC cap loads codes (f+1) i t).kept=w.kept:=by
  rw[←e0] at n2 ⊢
  have p1:w.districts=(cd cap loads codes f i t x1).d:=by rw[e1]
  have p2:w.kept=(cd cap loads codes f i t x1).kept:=by rw[e1]
  revert n1 n2
  unfold betterWorth candLt
  simp only[Bool.or_eq_false_iff,Bool.and_eq_false_iff,decide_eq_false_iff_not,beq_eq_false_iff_ne]
  omega
 have hworth:worthIs cap loads codes ds (f+1) i k t:=by
  unfold worthIs
  show (rowAt cap loads ds (table cap loads ds f (i+1)) i).getD k none=_
  rw[erow,w1,eq.1,eq.2]
 refine⟨hworth,x0,hx0,e0.symm,?_⟩
 have hrow:(rowAt cap loads ds (table cap loads ds f (i+1)) i).getD k none=some ⟨(headC cap loads codes (f+1) i t).d,(headC cap loads codes (f+1) i t).kept⟩:=hworth
 rw[hrow,ec,List.find?_map]
 have p0:((λc=>sameWorth (worthBehind (table cap loads ds f (i+1)) c k) (some ⟨(headC cap loads codes (f+1) i t).d,(headC cap loads codes (f+1) i t).kept⟩)) ∘ specCh ds i k) x0=true:=by
  show sameWorth (worthBehind _ (specCh ds i k x0) k) _=true
  rw[hw x0 hx0,←e0]
  unfold sameWorth
  simp
 cases q:(idxOf codes i t (sizes cap loads i).reverse).find? ((λc=>sameWorth (worthBehind (table cap loads ds f (i+1)) c k) (some ⟨(headC cap loads codes (f+1) i t).d,(headC cap loads codes (f+1) i t).kept⟩)) ∘ specCh ds i k) with
 | none =>
  have:=List.find?_eq_none.mp q x0 (same.mpr hx0)
  exact(this p0).elim
 | some x2 =>
  have hx2:=same.mp (List.mem_of_find?_eq_some q)
  have p2:=List.find?_some q
  have p2:sameWorth (worthBehind _ (specCh ds i k x2) k) _=true:=p2
  rw[hw x2 hx2] at p2
  unfold sameWorth at p2
  simp only[Bool.and_eq_true,beq_iff_eq] at p2
  have n3:=hb2 _ (List.mem_map.mpr ⟨x2,hx2,rfl⟩)
  rcases zjb zn6 q (same.mpr hx0) p0 with e|e
  ·rw[e];rfl
  ·refine absurd ?_ n3
   have s2:(cd cap loads codes f i t x2).size=x2.1:=rfl
   have t2:(cd cap loads codes f i t x2).turn=x2.2:=rfl
   have s0:(headC cap loads codes (f+1) i t).size=x0.1:=by rw[←e0];rfl
   have t0:(headC cap loads codes (f+1) i t).turn=x0.2:=by rw[←e0];rfl
   unfold candLt
   rw[s2,t2,s0,t0]
   unfold before at e
   omega
theorem main (hlen:loads.length=codes.length) (D:DsOk codes ds) (hcap:∀l∈loads,l≤cap):∀(F f i k:Nat) (t:Bool),f≤F→i+f=loads.length→Flag codes ds i k t→k≤ds.length→worthIs cap loads codes ds f i k t
 | F,0,i,k,t,_,hi,Fl,hk=>by
  unfold worthIs headC
  show (List.replicate (ds.length+1) (some (⟨0,0⟩:Worth))).getD k none=some ⟨(pick (noC,noC) t).d,(pick (noC,noC) t).kept⟩
  rw[List.getD_eq_getElem?_getD,List.getElem?_replicate,if_pos (by omega)]
  cases t<;>rfl
 | 0,f+1,i,k,t,h,_,_,_=>by omega
 | F+1,f+1,i,k,t,h,hi,Fl,hk =>
  (core hlen D hcap hi Fl hk λx hx=>zj0 hlen D hi Fl hk (λf' i' k' t' hf=>main hlen D hcap F f' i' k' t' (by omega)) hx).1
theorem found (hlen:loads.length=codes.length) (D:DsOk codes ds) (hcap:∀l∈loads,l≤cap) {f i k:Nat} {t:Bool} (hi:i+(f+1)=loads.length) (Fl:Flag codes ds i k t) (hk:k≤ds.length) :
  ∃x,x∈idxOf codes i t (sizes cap loads i)∧headC cap loads codes (f+1) i t=cd cap loads codes f i t x∧
   (choices cap loads ds i k).find? (λc=>sameWorth (worthBehind (table cap loads ds f (i+1)) c k) ((rowAt cap loads ds (table cap loads ds f (i+1)) i).getD k none))=some (specCh ds i k x) :=
 (core hlen D hcap hi Fl hk λx hx=>zj0 hlen D hi Fl hk (λf' i' k' t' hf=>main hlen D hcap f f' i' k' t' hf) hx).2
def codeOf (ds:List (Nat×Nat×Nat)) (c:Choice):Nat×Nat:=(c.size,match c.old with
 | some j=>(ds.getD j (0,0,0)).1
 | none=>0)
def Path (cap:Nat) (loads:List Nat) (ds:List (Nat×Nat×Nat)):Nat→Nat→List Choice→Prop
 | i,_,[]=>i=loads.length
 | i,k,c::l=>0 < c.size∧i+c.size≤loads.length∧fits cap loads i c.size=true∧
  (match c.old with
   | some j=>k≤j∧∃c0 b m,ds[j]?=some (c0,b,m)∧c.kept=overlap i c.size b m
   | none=>c.kept=0)∧Path cap loads ds (i+c.size) (nextOld k c) l
theorem znL (cap:Nat) (loads codes:List Nat) (f i:Nat) (t:Bool):∃x r,tab cap loads codes f i=x::r∧headC cap loads codes f i t=pick x t:=by
 cases f with
 | zero=>exact⟨_,_,rfl,rfl⟩
 | succ f=>exact⟨_,_,rfl,rfl⟩
theorem ziF (c:Choice) (l:List Choice):nsum ((c::l).map (·.kept))=c.kept+nsum (l.map (·.kept)):=rfl
theorem zhj (hlen:loads.length=codes.length) (D:DsOk codes ds) (hcap:∀l∈loads,l≤cap):∀(u f i k:Nat) (t:Bool),f < u→i+f=loads.length→Flag codes ds i k t→k≤ds.length→
  (traced cap loads ds u i k (table cap loads ds f i)).map (codeOf ds)=walk codes u i t (tab cap loads codes f i)∧
  Path cap loads ds i k (traced cap loads ds u i k (table cap loads ds f i))∧
  (headC cap loads codes f i t).d=(traced cap loads ds u i k (table cap loads ds f i)).length∧
  (headC cap loads codes f i t).kept=nsum ((traced cap loads ds u i k (table cap loads ds f i)).map (·.kept))
 | 0,f,_,_,_,h,_,_,_=>by omega
 | u+1,0,i,k,t,_,hi,Fl,hk=>by
  have e:traced cap loads ds (u+1) i k (table cap loads ds 0 i)=[]:=by
   show (if loads.length≤i then [] else _)=_
   rw[if_pos (by omega)]
  rw[e]
  refine⟨?_,(by show i=loads.length;omega),?_,?_⟩
  ·show []=(if codes.length≤i then [] else _)
   rw[if_pos (by omega)]
  ·cases t<;>rfl
  ·cases t<;>rfl
 | u+1,f+1,i,k,t,h,hi,Fl,hk=>by
  obtain⟨x,hx,e0,hf⟩:=found hlen D hcap hi Fl hk
  obtain⟨n,v⟩:=x
  obtain⟨h1,h2⟩:=zhQ.mp hx
  obtain⟨hn,hl,hfit⟩:=zhN.mp h1
  have hn:0 < n:=hn
  have hl:i+n≤loads.length:=hl
  have hfit:fits cap loads i n=true:=hfit
  have hs:(specCh ds i k (n,v)).size=n:=by
   rcases zjZ D Fl hn (by omega) h2 with ⟨j,c,b,m,_,_,_,g4,_⟩|⟨g4,_⟩<;>rw[g4]
  have et:traced cap loads ds (u+1) i k (table cap loads ds (f+1) i) =
    specCh ds i k (n,v)::traced cap loads ds u (i+n) (nextOld k (specCh ds i k (n,v))) (table cap loads ds (f+1 - n) (i+n)):=by
   show (if loads.length≤i then [] else match (choices cap loads ds i k).find? (λc=>sameWorth (worthBehind (table cap loads ds f (i+1)) c k) ((rowAt cap loads ds (table cap loads ds f (i+1)) i).getD k none)) with
    | none=>[]
    | some c=>c::traced cap loads ds u (i+c.size) (nextOld k c) ((table cap loads ds (f+1) i).drop c.size))=_
   rw[if_neg (by omega),hf]
   show specCh ds i k (n,v)::traced cap loads ds u (i+(specCh ds i k (n,v)).size) _ ((table cap loads ds (f+1) i).drop (specCh ds i k (n,v)).size)=_
   rw[hs,ziZ cap loads ds n (f+1) i (by omega)]
  have hc:headC cap loads codes (f+1) i t=cd cap loads codes f i t (n,v):=e0
  have sz:(headC cap loads codes (f+1) i t).size=n:=by rw[hc];rfl
  have cdc:(headC cap loads codes (f+1) i t).code=(prog codes i t (n,v)).2.2.1:=by rw[hc];rfl
  have ew:walk codes (u+1) i t (tab cap loads codes (f+1) i)=(n,(prog codes i t (n,v)).2.2.1)::walk codes u (i+n) (behind codes i t (i+n) (prog codes i t (n,v)).2.2.1) (tab cap loads codes (f+1 - n) (i+n)):=by
   obtain⟨x,r,e1,e2⟩:=znL cap loads codes (f+1) i t
   rw[e1]
   show (if codes.length≤i then [] else _)=_
   rw[if_neg (by omega),←e2,sz,cdc,←e1,zjj cap loads codes n (f+1) i (by omega)]
  have dk:(headC cap loads codes (f+1) i t).d=(headC cap loads codes (f+1 - n) (i+n) (behind codes i t (i+n) (prog codes i t (n,v)).2.2.1)).d+1∧
    (headC cap loads codes (f+1) i t).kept=(headC cap loads codes (f+1 - n) (i+n) (behind codes i t (i+n) (prog codes i t (n,v)).2.2.1)).kept+(prog codes i t (n,v)).2.2.2:=by
   rw[hc]
   unfold cd candOf headC
   have g:=zji cap loads codes (n - 1) f (i+1) (by omega)
   rw[show i+1+(n - 1)=i+n by omega,show f - (n - 1)=f+1 - n by omega] at g
   show (pick ((tab cap loads codes f (i+1)).getD (n - 1) (noC,noC)) _).d+1=_∧(pick ((tab cap loads codes f (i+1)).getD (n - 1) (noC,noC)) _).kept+_=_
   rw[g]
   exact⟨rfl,rfl⟩
  rw[et,ew,dk.1,dk.2,List.map_cons,ziF,List.length_cons]
  rcases zjZ D Fl hn (by omega) h2 with ⟨j,c,b,m,g1,g2,g3,g4,g5,g6⟩|⟨g4,g5,g6⟩
  ·have hj:j < ds.length:=(List.getElem?_eq_some_iff.mp g1).1
   rw[g4,g5]
   obtain⟨i1,i2,i3,i4⟩:=zhj hlen D hcap u (f+1 - n) (i+n) (j+1) _ (by omega) (by omega) g6 (by omega)
   refine⟨?_,?_,?_,?_⟩
   ·show (n,(ds.getD j (0,0,0)).1)::_=(n,c)::_
    have ec:(ds.getD j (0,0,0)).1=c:=by rw[List.getD_eq_getElem?_getD,g1];rfl
    rw[ec]
    exact congrArg _ i1
   ·exact⟨hn,hl,hfit,⟨g2,c,b,m,g1,rfl⟩,i2⟩
   ·exact congrArg (· + 1) i3
   ·show _+overlap i n b m=overlap i n b m+_
    rw[Nat.add_comm]
    exact congrArg (overlap i n b m + ·) i4
  ·rw[g4,g5]
   obtain⟨i1,i2,i3,i4⟩:=zhj hlen D hcap u (f+1 - n) (i+n) k _ (by omega) (by omega) g6 hk
   refine⟨?_,?_,?_,?_⟩
   ·exact congrArg _ i1
   ·exact⟨hn,hl,hfit,rfl,i2⟩
   ·exact congrArg (· + 1) i3
   ·show _+0=0+_
    rw[Nat.add_comm]
    exact congrArg (0 + ·) i4
end
end Pd
end
section
namespace Pd
open Vbpoan
def Ctg:List Nat→Prop
 | []=>True
 | c::l=>Ctg l∧(c∈l→l.head?=some c)
theorem zm0 (c:Nat) (b:List Nat):∀a:List Nat,Ctg (a++c::b)→Ctg (a++c::c::b)
 | [],h=>⟨h,λ_=>rfl⟩
 | x::a,h=>by
  obtain⟨h1,h2⟩:=h
  refine⟨zm0 c b a h1,λhx=>?_⟩
  have hx:x∈a++c::c::b:=hx
  have e:(a++c::b).head?=some x:=h2 (by
   rcases List.mem_append.mp hx with q|q
   ·exact List.mem_append_left _ q
   ·rcases List.mem_cons.mp q with q|q
    ·exact List.mem_append_right _ (by rw[q];exact List.mem_cons_self)
    ·exact List.mem_append_right _ q)
  show (a++c::c::b).head?=some x
  cases a with
  | nil=>exact e
  | cons y a=>exact e
theorem zib:∀{x:Nat} {l:List Nat},Ctg (x::l)→∃m r,l=List.replicate m x++r∧x∉r∧Ctg r
 | x,[],_=>⟨0,[],rfl,by simp,trivial⟩
 | x,y::l,h=>by
  obtain⟨h1,h2⟩:=h
  by_cases e:x∈y::l
  ·have q:=h2 e
   have q:y=x:=Option.some.inj q
   subst q
   obtain⟨m,r,e1,e2,e3⟩:=zib h1
   exact⟨m+1,r,by rw[e1];rfl,e2,e3⟩
  ·exact⟨0,y::l,rfl,e,h1⟩
theorem zoH {c:Nat} {l:List Nat} (h:Ctg l) (hc:c∉l):∀n,Ctg (List.replicate n c++l)
 | 0=>h
 | n+1=>⟨zoH h hc n,λhm=>by
  cases n with
  | zero=>exact(hc hm).elim
  | succ n=>rfl⟩
theorem zlZ:∀{l' l:List Nat},l'.Sublist l→Ctg l→Ctg l'
 | _,_,.slnil,_=>trivial
 | _,_,.cons _ h,q=>zlZ h q.1
 | x::l',_::l,.cons_cons _ h,q=>by
  refine⟨zlZ h q.1,λhx=>?_⟩
  obtain⟨m,r,e1,e2,e3⟩:=zib q
  rw[e1] at h
  obtain⟨a,b,rfl,ha,hb⟩:=List.sublist_append_iff.mp h
  have hxa:x∈a:=by
   rcases List.mem_append.mp hx with z|z
   ·exact z
   ·exact(e2 (hb.subset z)).elim
  cases a with
  | nil=>cases hxa
  | cons y a =>
   have:y=x:=List.eq_of_mem_replicate (ha.subset List.mem_cons_self)
   rw[this];rfl
theorem zaB (n c:Nat) (l:List (Nat×Nat)):spread ((n,c)::l)=List.replicate n c++spread l:=rfl
theorem zek:∀{l:List (Nat×Nat)} {c:Nat},c∈spread l→∃n,(n,c)∈l
 | [],_,h=>nomatch h
 | (n,d)::l,c,h=>by
  rw[zaB] at h
  rcases List.mem_append.mp h with q|q
  ·exact⟨n,by rw[List.eq_of_mem_replicate q];exact List.mem_cons_self⟩
  ·obtain⟨m,hm⟩:=zek q
   exact⟨m,List.mem_cons_of_mem _ hm⟩
theorem zjd:∀{l:List (Nat×Nat)},(l.map (·.2)).Nodup→Ctg (spread l)
 | [],_=>trivial
 | (n,c)::l,h=>by
  rw[List.map_cons,List.nodup_cons] at h
  exact zoH (zjd h.2) (λq=>let ⟨m,hm⟩:=zek q;h.1 (List.mem_map.mpr ⟨_,hm,rfl⟩)) n
theorem zmy:∀(k:Nat) (l:List Nat),l.length≤k→Ctg l→∃g:List (Nat×Nat),l=spread g∧(g.map (·.2)).Nodup∧∀x∈g,0 < x.1
 | _,[],_,_=>⟨[],rfl,List.nodup_nil,λ_ h=>nomatch h⟩
 | 0,_::_,h,_=>by simp at h
 | k+1,c::l,hk,h=>by
  obtain⟨m,r,e1,e2,e3⟩:=zib h
  have hl:r.length≤k:=by
   have:=congrArg List.length e1
   rw[List.length_append,List.length_replicate] at this
   simp at hk
   omega
  obtain⟨g,e4,e5,e6⟩:=zmy k r hl e3
  refine⟨(m+1,c)::g,?_,?_,λx hx=>?_⟩
  ·rw[zaB,←e4,e1];rfl
  ·rw[List.map_cons,List.nodup_cons]
   refine⟨λhm=>e2 ?_,e5⟩
   obtain⟨⟨n,d⟩,hx,e⟩:=List.mem_map.mp hm
   have e:d=c:=e
   subst e
   rw[e4]
   have hn:=e6 _ hx
   have hn:0 < n:=hn
   clear e4 e5 e6 hm h e1 e2 e3 hl hk
   induction g with
   | nil=>cases hx
   | cons y g ih =>
    obtain⟨n',d'⟩:=y
    rw[zaB]
    rcases List.mem_cons.mp hx with q|q
    ·cases q
     exact List.mem_append_left _ (by rw[List.mem_replicate];exact⟨by omega,rfl⟩)
    ·exact List.mem_append_right _ (ih q)
  ·rcases List.mem_cons.mp hx with q|q
   ·rw[q];exact Nat.succ_pos _
   ·exact e6 x q
def offs:Nat→List (Nat×Nat)→List (Nat×Nat×Nat)
 | _,[]=>[]
 | i,(n,c)::r=>if n=0∨c=0 then offs (i+n) r else (c,i,n)::offs (i+n) r
theorem zhf:∀{g:List (Nat×Nat)} {i:Nat} {x:Nat×Nat×Nat},x∈offs i g→x.1≠0∧x.1∈g.map (·.2)
 | [],_,_,h=>nomatch h
 | (n,c)::r,i,x,h=>by
  unfold offs at h
  split at h
  ·obtain⟨h1,h2⟩:=zhf h
   exact⟨h1,List.mem_cons_of_mem _ h2⟩
  ·rename_i hn
   rcases List.mem_cons.mp h with e|e
   ·subst e
    exact⟨λz=>hn (.inr z),List.mem_cons_self⟩
   ·obtain⟨h1,h2⟩:=zhf e
    exact⟨h1,List.mem_cons_of_mem _ h2⟩
theorem znS (i c:Nat) (l:List Nat):olds i (c::l)=match olds (i+1) l with
  | (d,j,n)::r=>if c=d∧j=i+1 then (c,i,n+1)::r else if c=0 then (d,j,n)::r else (c,i,1)::(d,j,n)::r
  | []=>if c=0 then [] else [(c,i,1)]:=rfl
theorem zmo {c:Nat} {l:List Nat}:∀(n i:Nat),(∀x∈olds (i+n) l,x.1≠c∧x.1≠0)→olds i (List.replicate n c++l)=if n=0∨c=0 then olds (i+n) l else (c,i,n)::olds (i+n) l
 | 0,i,_=>by rw[if_pos (.inl rfl)];rfl
 | n+1,i,h=>by
  have e:i+(n+1)=i+1+n:=by omega
  rw[e] at h ⊢
  have ih:=zmo n (i+1) h
  show olds i (c::(List.replicate n c++l))=_
  rw[znS,ih]
  by_cases hc:c=0
  ·rw[if_pos (show n=0∨c=0 from .inr hc),if_pos (show n+1=0∨c=0 from .inr hc)]
   cases q:olds (i+1+n) l with
   | nil=>exact if_pos hc
   | cons y r =>
    obtain⟨d,j,m⟩:=y
    have hd:=h (d,j,m) (by rw[q];exact List.mem_cons_self)
    show (if c=d∧j=i+1 then _ else if c=0 then (d,j,m)::r else _)=_
    rw[if_neg (λz=>hd.1 z.1.symm),if_pos hc]
  ·rw[if_neg (λz:n+1=0∨c=0=>z.elim (λz=>by omega) hc)]
   by_cases hn:n=0
   ·subst hn
    rw[if_pos (.inl rfl)]
    cases q:olds (i+1+0) l with
    | nil=>exact if_neg hc
    | cons y r =>
     obtain⟨d,j,m⟩:=y
     have hd:=h (d,j,m) (by rw[q];exact List.mem_cons_self)
     show (if c=d∧j=i+1 then _ else if c=0 then (d,j,m)::r else (c,i,1)::(d,j,m)::r)=_
     rw[if_neg (λz=>hd.1 z.1.symm),if_neg hc]
   ·rw[if_neg (λz:n=0∨c=0=>z.elim hn hc)]
    show (if c=c∧i+1=i+1 then (c,i,n+1)::olds (i+1+n) l else _)=_
    rw[if_pos ⟨rfl,rfl⟩]
theorem zkA:∀{g:List (Nat×Nat)} {i:Nat},(g.map (·.2)).Nodup→olds i (spread g)=offs i g
 | [],_,_=>rfl
 | (n,c)::r,i,h=>by
  rw[List.map_cons,List.nodup_cons] at h
  have ih:=zkA (i:=i+n) h.2
  rw[zaB,zmo n i,ih]
  ·rfl
  ·intro x hx
   rw[ih] at hx
   obtain⟨h1,h2⟩:=zhf hx
   exact⟨λz=>h.1 (by rw[←show x.1=c from z];exact h2),h1⟩
structure SegOk (i:Nat) (codes:List Nat) (ds:List (Nat×Nat×Nat)):Prop where
 cover:∀(p c:Nat),i≤p→codes[p]?=some c→c≠0→∃(j b m:Nat),ds[j]?=some (c,b,m)∧b≤p∧p < b+m
 mem:∀(j c b m:Nat),ds[j]?=some (c,b,m)→c≠0∧0 < m∧i≤b∧∀(p:Nat),b≤p→p < b+m→codes[p]?=some c
 sorted:∀(j j' c b m c' b' m':Nat),ds[j]?=some (c,b,m)→ds[j']?=some (c',b',m')→j < j'→b+m≤b'
 inj:∀(j j' c b m b' m':Nat),ds[j]?=some (c,b,m)→ds[j']?=some (c,b',m')→j=j'
theorem zpX:∀(g:List (Nat×Nat)) (pre:List Nat),(g.map (·.2)).Nodup→SegOk pre.length (pre++spread g) (offs pre.length g)
 | [],pre,_=>by
  refine⟨λp c hp h _=>?_,λj c b m h=>?_,λj j' c b m c' b' m' h=>?_,λj j' c b m b' m' h=>?_⟩
  ·have h:(pre++[])[p]?=some c:=h
   rw[List.append_nil,List.getElem?_eq_none hp] at h
   cases h
  ·exact nomatch (show (none:Option (Nat×Nat×Nat))=some _ from h)
  ·exact nomatch (show (none:Option (Nat×Nat×Nat))=some _ from h)
  ·exact nomatch (show (none:Option (Nat×Nat×Nat))=some _ from h)
 | (n,c)::r,pre,h=>by
  rw[List.map_cons,List.nodup_cons] at h
  have ih:=zpX r (pre++List.replicate n c) h.2
  have el:(pre++List.replicate n c).length=pre.length+n:=by simp
  have ec:pre++List.replicate n c++spread r=pre++spread ((n,c)::r):=by rw[zaB,List.append_assoc]
  rw[el,ec] at ih
  have at_:∀p,pre.length≤p→p < pre.length+n→(pre++spread ((n,c)::r))[p]?=some c:=λp h1 h2=>by
   rw[zaB,List.getElem?_append_right h1,List.getElem?_append_left (by simp;omega),List.getElem?_replicate,if_pos (by omega)]
  unfold offs
  by_cases hn:n=0∨c=0
  ·rw[if_pos hn]
   refine⟨λp c' hp hc h0=>?_,λj c' b m hj=>?_,ih.sorted,ih.inj⟩
   ·by_cases q:p < pre.length+n
    ·have:=at_ p hp q
     rw[hc] at this
     have:=Option.some.inj this
     rcases hn with z|z
     ·omega
     ·exact(h0 (by rw[this];exact z)).elim
    ·exact ih.cover p c' (by omega) hc h0
   ·obtain⟨h1,h2,h3,h4⟩:=ih.mem j c' b m hj
    exact⟨h1,h2,by omega,h4⟩
  ·rw[if_neg hn]
   have hn0:0 < n:=by omega
   have hc0:c≠0:=λz=>hn (.inr z)
   refine⟨λp c' hp hc h0=>?_,λj c' b m hj=>?_,λj j' c1 b m c2 b' m' h1 h2 hl=>?_,λj j' c1 b m b' m' h1 h2=>?_⟩
   ·by_cases q:p < pre.length+n
    ·have:=at_ p hp q
     rw[hc] at this
     have:=Option.some.inj this
     subst this
     exact⟨0,pre.length,n,rfl,hp,q⟩
    ·obtain⟨j,b,m,h1,h2,h3⟩:=ih.cover p c' (by omega) hc h0
     exact⟨j+1,b,m,by simpa using h1,h2,h3⟩
   ·cases j with
    | zero =>
     have hj:some (c,pre.length,n)=some (c',b,m):=by simpa using hj
     cases hj
     exact⟨hc0,hn0,Nat.le_refl _,at_⟩
    | succ j =>
     obtain⟨h1,h2,h3,h4⟩:=ih.mem j c' b m (by simpa using hj)
     exact⟨h1,h2,by omega,h4⟩
   ·cases j' with
    | zero=>omega
    | succ j' =>
     have h2:(offs (pre.length+n) r)[j']?=some (c2,b',m'):=by simpa using h2
     obtain⟨_,_,g3,_⟩:=ih.mem j' c2 b' m' h2
     cases j with
     | zero =>
      have h1:some (c,pre.length,n)=some (c1,b,m):=by simpa using h1
      cases h1
      exact g3
     | succ j=>exact ih.sorted j j' c1 b m c2 b' m' (by simpa using h1) h2 (by omega)
   ·have no:∀(j b m:Nat),(offs (pre.length+n) r)[j]?=some (c,b,m)→False:=λj b m q=>h.1 (zhf (List.mem_of_getElem? q)).2
    cases j with
    | zero =>
     have h1:some (c,pre.length,n)=some (c1,b,m):=by simpa using h1
     cases h1
     cases j' with
     | zero=>rfl
     | succ j'=>exact(no j' b' m' (by simpa using h2)).elim
    | succ j =>
     cases j' with
     | zero =>
      have h2:some (c,pre.length,n)=some (c1,b',m'):=by simpa using h2
      cases h2
      exact(no j b m (by simpa using h1)).elim
     | succ j' =>
      have:=ih.inj j j' c1 b m b' m' (by simpa using h1) (by simpa using h2)
      omega
theorem ds_ok {codes:List Nat} (h:Ctg codes):DsOk codes (olds 0 codes):=by
 obtain⟨g,e1,e2,_⟩:=zmy codes.length codes (Nat.le_refl _) h
 have q:=zpX g [] e2
 rw[e1,zkA e2]
 exact⟨λp c=>q.cover p c (Nat.zero_le _),λj c b m h=>let ⟨h1,h2,_,h4⟩:=q.mem j c b m h;⟨h1,h2,h4⟩,q.sorted,q.inj⟩
theorem flag0 {codes:List Nat} {ds:List (Nat×Nat×Nat)}:Flag codes ds 0 0 false:=⟨(λz=>nomatch z),λ_ _ _ _ _ _ _=>Nat.zero_le _⟩
theorem zit:∀{l:List (Option Worth)},(∀x∈l,x=none)→bestOf l=none
 | [],_=>rfl
 | x::l,h=>by
  have e:=h x List.mem_cons_self
  subst e
  show bestOf l=none
  exact zit λy hy=>h y (List.mem_cons_of_mem _ hy)
theorem zhP:∀{l:List Nat} {p:Nat} (h:p < l.length) {n:Nat},p < n→l[p]≤nsum (l.take n)
 | a::l,0,h,n+1,_=>by
  show a≤a+nsum (l.take n)
  omega
 | a::l,p+1,h,n+1,hp=>by
  have hp':p < l.length:=by simpa using h
  have:=zhP (l:=l) (p:=p) hp' (n:=n) (by omega)
  show l[p]'hp'≤a+nsum (l.take n)
  omega
theorem heavy {cap:Nat} {loads:List Nat} {ds:List (Nat×Nat×Nat)} {p:Nat} (hp:p < loads.length) (hc:cap < loads[p]):∀(F f i k:Nat),f≤F→i+f=loads.length→i≤p→((table cap loads ds f i).headD []).getD k none=none
 | F,0,i,k,_,h1,h2=>by omega
 | 0,f+1,i,k,h,_,_=>by omega
 | F+1,f+1,i,k,h,h1,h2=>by
  show (rowAt cap loads ds (table cap loads ds f (i+1)) i).getD k none=none
  unfold rowAt
  rw[List.getD_eq_getElem?_getD,List.getElem?_map]
  by_cases hk:k < ds.length+1
  ·rw[List.getElem?_range hk,Option.map_some,Option.getD_some]
   refine zit λx hx=>?_
   obtain⟨c,hc',rfl⟩:=List.mem_map.mp hx
   unfold choices at hc'
   obtain⟨n,hn,hm⟩:=List.mem_flatMap.mp hc'
   obtain⟨y,hy,rfl⟩:=List.mem_map.mp hn
   have hy:=List.mem_range.mp (List.mem_reverse.mp hy)
   split at hm
   ·cases hm
   ·rename_i hf
    have hf:fitsCap cap loads i (y+1)=true:=by simpa using hf
    unfold fitsCap at hf
    have hf:=of_decide_eq_true hf
    have hip:i+(y+1)≤p:=by
     by_cases z:i+(y+1)≤p
     ·exact z
     ·have:=zhP (l:=loads.drop i) (p:=p - i) (by rw[List.length_drop];omega) (n:=y+1) (by omega)
      rw[List.getElem_drop] at this
      have e:loads[i+(p - i)]=loads[p]:=by congr 1;omega
      omega
    have hsz:c.size=y+1:=by
     rcases List.mem_append.mp hm with z|z
     ·obtain⟨j,_,e⟩:=List.mem_filterMap.mp z
      split at e
      ·dsimp only at e
       split at e
       ·cases e;rfl
       ·cases e
      ·cases e
     ·rw[List.mem_singleton.mp z]
    unfold worthBehind
    rw[hsz,show y+1 - 1=y by omega,zhk cap loads ds y f (i+1) (by omega),heavy hp hc F (f - y) (i+1+y) _ (by omega) (by omega) (by omega)]
    rfl
  ·rw[List.getElem?_eq_none (by simp;omega)];rfl
theorem zid {codes:List Nat} {ds:List (Nat×Nat×Nat)} (D:DsOk codes ds) {j c b m i:Nat} (hj:ds[j]?=some (c,b,m)):∀n,i+n≤codes.length→((codes.drop i).take n).countP (λx=>x == c)=overlap i n b m
 | 0,_=>by
  have:overlap i 0 b m=0:=by unfold overlap;omega
  rw[this];rfl
 | n+1,hn=>by
  have ih:=zid D hj (i:=i) n (by omega)
  have hl:n < (codes.drop i).length:=by rw[List.length_drop];omega
  rw[List.take_succ_eq_append_getElem hl,List.countP_append,ih,List.getElem_drop]
  have hp:=zja (codes:=codes) (p:=i+n) (by omega)
  have hg:codes[i+n]=codes.getD (i+n) 0:=by
   rw[List.getElem?_eq_getElem (by omega)] at hp
   exact Option.some.inj hp
  by_cases q:b≤i+n∧i+n < b+m
  ·have e:overlap i (n+1) b m=overlap i n b m+1:=by unfold overlap;omega
   have ec:=D.zeb hj q.1 q.2
   rw[e,hg,ec]
   simp
  ·have e:overlap i (n+1) b m=overlap i n b m:=by unfold overlap;omega
   have ec:¬ codes.getD (i+n) 0=c:=λz=>by
    have h0:=(D.mem j c b m hj).1
    obtain⟨j',b',m',g1,g2,g3⟩:=D.cover _ _ hp (by rw[z];exact h0)
    have:j'=j:=D.inj j' j c b' m' b m (by rw[g1,z]) hj
    subst this
    rw[hj] at g1
    cases g1
    exact q ⟨g2,g3⟩
   have eb:(codes.getD (i+n) 0 == c)=false:=beq_eq_false_iff_ne.mpr ec
   rw[e,hg,List.countP_cons,eb]
   rfl
end Pd
end
section
set_option maxRecDepth 20000
namespace Pd
open Vbpoan
def named:List (Nat×Nat)→List Nat→List (Nat×Nat)
 | [],_=>[]
 | (n,c)::r,fr=>if c=0 then (n,fr.headD 0)::named r fr.tail else (n,c)::named r fr
def wanted (l:List (Nat×Nat)):Nat:=(l.filter λx=>x.2 == 0).length
def freeL (s:State):List Nat:=Vbpoan.codes.filter (isFree s [])
theorem zbh (n c:Nat) (l:List (Nat×Nat)):wanted ((n,c)::l)=(if c=0 then 1 else 0)+wanted l:=by
 unfold wanted
 rw[List.filter_cons]
 by_cases h:c=0
 ·subst h;simp;omega
 ·simp[h]
theorem zg2:∀(l:List (Nat×Nat)) (fr:List Nat) (w:Nat),wanted l≤w→named l (fr.take w)=named l fr
 | [],_,_,_=>rfl
 | (n,c)::r,fr,w,h=>by
  rw[zbh] at h
  unfold named
  by_cases hc:c=0
  ·rw[if_pos hc] at h
   rw[if_pos hc,if_pos hc]
   cases w with
   | zero=>omega
   | succ w =>
    cases fr with
    | nil=>rfl
    | cons x fr =>
     show (n,x)::named r (fr.take w)=(n,x)::named r fr
     rw[zg2 r fr w (by omega)]
  ·rw[if_neg hc] at h
   rw[if_neg hc,if_neg hc,zg2 r fr w (by omega)]
theorem zeS:∀(l:List (Nat×Nat)) (fr:List Nat),(named l fr).map (·.1)=l.map (·.1)
 | [],_=>rfl
 | (n,c)::r,fr=>by
  unfold named
  split
  ·rw[List.map_cons,List.map_cons,zeS r]
  ·rw[List.map_cons,List.map_cons,zeS r]
theorem zoI {c:Nat}:c∈Vbpoan.codes↔100≤c∧c≤999:=by
 unfold Vbpoan.codes FIRST LAST
 rw[List.mem_map]
 constructor
 ·rintro ⟨x,hx,rfl⟩
  have:=List.mem_range.mp hx
  omega
 ·rintro ⟨h1,h2⟩
  exact⟨c - 100,List.mem_range.mpr (by omega),by omega⟩
theorem zm1:Vbpoan.codes.Nodup:=by
 unfold Vbpoan.codes
 exact List.Pairwise.map _ (λa b h=>by omega) (List.pairwise_lt_range.imp λh=>Nat.ne_of_lt h)
theorem zn3 (s:State) (T:List Nat) (c:Nat):isFree s T c=(!(T.contains c) && isFree s [] c):=by
 unfold isFree
 simp
theorem zpJ {s:State} {c:Nat} (h:isFree s [] c=true):c∉codesOf s:=by
 unfold isFree at h
 simp only[Bool.and_eq_true] at h
 intro q
 have:=h.2.1
 rw[List.contains_iff_mem.mpr q] at this
 cases this
theorem zi4 {s:State} {c:Nat} (h:c∈freeL s):100≤c∧c≤999∧c∉codesOf s:=by
 obtain⟨h1,h2⟩:=List.mem_filter.mp h
 have:=zoI.mp h1
 exact⟨this.1,this.2,zpJ h2⟩
theorem zi3 (s:State):(freeL s).Nodup:=zm1.filter _
theorem zmT {s:State} {kept A B:List Nat} (hk:∀c∈kept,c∈codesOf s) (e:freeL s=A++B):newCode s (kept++A.reverse)=B.head?:=by
 unfold newCode
 have e1:Vbpoan.codes.find? (isFree s (kept++A.reverse))=(freeL s).find? λc=>!((kept++A.reverse).contains c):=by
  unfold freeL
  rw[List.find?_filter]
  congr 1
  funext c
  rw[zn3,Bool.and_comm]
  cases isFree s [] c<;>cases ((kept++A.reverse).contains c)<;>rfl
 rw[e1,e,List.find?_append]
 have hn:A.find? (λc=>!((kept++A.reverse).contains c))=none:=List.find?_eq_none.mpr λc hc=>by
  rw[List.contains_iff_mem.mpr (List.mem_append_right _ (List.mem_reverse.mpr hc))]
  decide
 rw[hn,Option.none_or]
 cases B with
 | nil=>rfl
 | cons b B =>
  have hb:b∈freeL s:=by rw[e];exact List.mem_append_right _ List.mem_cons_self
  have nd:=zi3 s
  rw[e] at nd
  have hbA:b∉A:=λq=>(List.nodup_append.mp nd).2.2 b q b List.mem_cons_self rfl
  have hnc:((kept++A.reverse).contains b)=false:=by
   cases q:(kept++A.reverse).contains b with
   | false=>rfl
   | true =>
    rcases List.mem_append.mp (List.contains_iff_mem.mp q) with z|z
    ·exact((zi4 hb).2.2 (hk b z)).elim
    ·exact(hbA (List.mem_reverse.mp z)).elim
  rw[List.find?_cons,hnc]
  rfl
theorem zjY {s:State} {ds:List (Nat×Nat×Nat)} {kept:List Nat} (hk:∀c∈kept,c∈codesOf s):∀(cs:List Choice) (A B:List Nat),(∀c∈cs,∀j,c.old=some j→(ds.getD j (0,0,0)).1≠0)→freeL s=A++B→
  codedChoices s ds kept A.reverse cs=if wanted (cs.map (codeOf ds))≤B.length then some (named (cs.map (codeOf ds)) B) else none
 | [],A,B,_,_=>by
  show _=if 0≤B.length then _ else _
  rw[if_pos (Nat.zero_le _)];rfl
 | c::l,A,B,hd,e=>by
  obtain⟨n,o,m⟩:=c
  cases o with
  | some j =>
   have ih:=zjY hk l A B (λx hx=>hd x (List.mem_cons_of_mem _ hx)) e
   have hj:=hd _ List.mem_cons_self j rfl
   show Option.map _ (codedChoices s ds kept A.reverse l)=_
   rw[ih,List.map_cons]
   show _=if wanted ((n,(ds.getD j (0,0,0)).1)::l.map (codeOf ds))≤_ then some (named ((n,(ds.getD j (0,0,0)).1)::l.map (codeOf ds)) B) else none
   have en:named ((n,(ds.getD j (0,0,0)).1)::l.map (codeOf ds)) B=(n,(ds.getD j (0,0,0)).1)::named (l.map (codeOf ds)) B:=by
    show (if (ds.getD j (0,0,0)).1=0 then _ else _)=_
    rw[if_neg hj]
   rw[zbh,if_neg hj,en,Nat.zero_add]
   by_cases h:wanted (l.map (codeOf ds))≤B.length
   ·rw[if_pos h,if_pos h];rfl
   ·rw[if_neg h,if_neg h];rfl
  | none =>
   have ew:wanted ((codeOf ds ⟨n,none,m⟩)::l.map (codeOf ds))=1+wanted (l.map (codeOf ds)):=by
    show wanted ((n,0)::_)=_
    rw[zbh,if_pos rfl]
   rw[List.map_cons,ew]
   show (match newCode s (kept++A.reverse) with
    | none=>none
    | some x=>(codedChoices s ds kept (x::A.reverse) l).map λr=>(n,x)::r)=_
   rw[zmT hk e]
   cases B with
   | nil=>rw[if_neg (by simp only[List.length_nil];omega)];rfl
   | cons b B =>
    have ih:=zjY hk l (A++[b]) B (λx hx=>hd x (List.mem_cons_of_mem _ hx)) (by rw[e,List.append_assoc];rfl)
    rw[List.reverse_append] at ih
    show Option.map _ (codedChoices s ds kept (b::A.reverse) l)=_
    have ih:codedChoices s ds kept (b::A.reverse) l=_:=ih
    rw[ih]
    show _=if _ then some (named ((n,0)::_) _) else none
    have en:named ((n,0)::l.map (codeOf ds)) (b::B)=(n,b)::named (l.map (codeOf ds)) B:=by
     show (if (0:Nat)=0 then _ else _)=_
     rw[if_pos rfl];rfl
    rw[en,List.length_cons]
    by_cases h:wanted (l.map (codeOf ds))≤B.length
    ·rw[if_pos h,if_pos (by omega)];rfl
    ·rw[if_neg h,if_neg (by omega)];rfl
section
variable {cap:Nat} {loads codes:List Nat} {ds:List (Nat×Nat×Nat)}
theorem zi5 (D:DsOk codes ds) {j c b m:Nat} (h:ds[j]?=some (c,b,m)):(ds.getD j (0,0,0)).1=c∧c≠0∧c∈codes:=by
 obtain⟨h1,h2,h3⟩:=D.mem j c b m h
 exact⟨by rw[List.getD_eq_getElem?_getD,h];rfl,h1,List.mem_of_getElem? (h3 b (Nat.le_refl _) (by omega))⟩
theorem zjA (D:DsOk codes ds):∀{cs:List Choice} {i k:Nat},Path cap loads ds i k cs→∀c∈cs,∀j,c.old=some j→k≤j∧(ds.getD j (0,0,0)).1≠0∧(ds.getD j (0,0,0)).1∈codes∧∃x,ds[j]?=some x
 | [],_,_,_,_,h,_,_=>nomatch h
 | c::l,i,k,p,x,hx,j,hj=>by
  obtain⟨p1,p2,p3,p4,p5⟩:=p
  rcases List.mem_cons.mp hx with e|e
  ·subst e
   rw[hj] at p4
   obtain⟨g1,c0,b,m,g2,g3⟩:=p4
   obtain⟨e1,e2,e3⟩:=zi5 D g2
   rw[e1]
   exact⟨g1,e2,e3,_,g2⟩
  ·obtain⟨h1,h2⟩:=zjA D p5 x e j hj
   refine⟨?_,h2⟩
   unfold nextOld at h1
   cases q:c.old with
   | none=>rw[q] at h1;exact h1
   | some j' =>
    rw[q] at h1 p4
    have:=p4.1
    have h1:j'+1≤j:=h1
    omega
theorem zhR (c:Nat):∀(L:List Nat),((L.zip (List.replicate L.length c)).filter λx=>x.1 == x.2 && x.1 != 0).length=if c=0 then 0 else L.countP λx=>x == c
 | []=>by simp
 | a::L=>by
  have ih:=zhR c L
  rw[List.length_cons,List.replicate_succ,List.zip_cons_cons,List.filter_cons,List.countP_cons]
  by_cases hc:c=0
  ·rw[if_pos hc] at ih ⊢
   subst hc
   by_cases ha:a=0
   ·subst ha
    simpa using ih
   ·have e:((a,0).1 == (a,0).2 && (a,0).1 != 0)=false:=by
     show (a == 0 && a != 0)=false
     simp[ha]
    rw[e]
    simpa using ih
  ·rw[if_neg hc] at ih ⊢
   by_cases ha:a=c
   ·subst ha
    have e:((a,a).1 == (a,a).2 && (a,a).1 != 0)=true:=by
     show (a == a && a != 0)=true
     simp[hc]
    rw[e,if_pos rfl,List.length_cons,ih]
    simp
   ·have e:((a,c).1 == (a,c).2 && (a,c).1 != 0)=false:=by
     show (a == c && a != 0)=false
     simp[ha]
    rw[e]
    simp[ih,ha]
theorem zgk (D:DsOk codes ds) (hlen:loads.length=codes.length):∀(cs:List Choice) (i k:Nat) (B:List Nat),Path cap loads ds i k cs→(∀b∈B,b∉codes∧b≠0)→wanted (cs.map (codeOf ds))≤B.length→
  (((codes.drop i).zip (spread (named (cs.map (codeOf ds)) B))).filter λx=>x.1 == x.2 && x.1 != 0).length=nsum (cs.map (·.kept))∧
  (spread (named (cs.map (codeOf ds)) B)).length=loads.length - i∧(∀x∈named (cs.map (codeOf ds)) B,x.2≠0∧0 < x.1)∧
  ((named (cs.map (codeOf ds)) B).map (·.2)).Nodup=((named (cs.map (codeOf ds)) B).map (·.2)).Nodup
 | [],i,k,B,p,_,_=>by
  have p:i=loads.length:=p
  refine⟨?_,?_,(λx h=>nomatch h),rfl⟩
  ·show ((List.zip _ []).filter _).length=0
   rw[List.zip_nil_right];rfl
  ·show 0=_
   omega
 | c::l,i,k,B,p,hB,hw=>by
  obtain⟨n,o,m⟩:=c
  obtain⟨p1,p2,p3,p4,p5⟩:=p
  have p1:0 < n:=p1
  have p2:i+n≤loads.length:=p2
  have split:∀(x:Nat) (r:List Nat),(codes.drop i).zip (List.replicate n x++r)=((codes.drop i).take n).zip (List.replicate ((codes.drop i).take n).length x)++(codes.drop (i+n)).zip r:=λx r=>by
   have el:((codes.drop i).take n).length=n:=by rw[List.length_take,List.length_drop];omega
   rw[el]
   conv=>lhs;rw[←List.take_append_drop n (codes.drop i)]
   rw[List.zip_append (by rw[el,List.length_replicate]),List.drop_drop]
  cases o with
  | some j =>
   obtain⟨g1,c0,b,mm,g2,g3⟩:=p4
   have g3:m=overlap i n b mm:=g3
   obtain⟨e1,e2,e3⟩:=zi5 D g2
   have ec:codeOf ds ⟨n,some j,m⟩=(n,c0):=by
    show (n,(ds.getD j (0,0,0)).1)=_
    rw[e1]
   rw[List.map_cons,ec] at hw ⊢
   rw[zbh,if_neg e2,Nat.zero_add] at hw
   obtain⟨i1,i2,i3,_⟩:=zgk D hlen l (i+n) (j+1) B p5 hB hw
   have en:named ((n,c0)::l.map (codeOf ds)) B=(n,c0)::named (l.map (codeOf ds)) B:=by
    show (if c0=0 then _ else _)=_
    rw[if_neg e2]
   rw[en,zaB,split,List.filter_append,List.length_append,zhR,if_neg e2,i1,zid D g2 n (by omega)]
   refine⟨?_,?_,λx hx=>?_,rfl⟩
   ·rw[←g3];rfl
   ·rw[List.length_append,List.length_replicate,i2];omega
   ·rcases List.mem_cons.mp hx with e|e
    ·rw[e];exact⟨e2,p1⟩
    ·exact i3 x e
  | none =>
   have p4:m=0:=p4
   subst p4
   have ec:codeOf ds ⟨n,none,0⟩=(n,0):=rfl
   rw[List.map_cons,ec] at hw ⊢
   rw[zbh,if_pos rfl] at hw
   cases B with
   | nil=>simp at hw
   | cons b B =>
    have hb:=hB b List.mem_cons_self
    obtain⟨i1,i2,i3,_⟩:=zgk D hlen l (i+n) k B p5 (λx hx=>hB x (List.mem_cons_of_mem _ hx)) (by simp at hw;omega)
    have en:named ((n,0)::l.map (codeOf ds)) (b::B)=(n,b)::named (l.map (codeOf ds)) B:=by
     show (if (0:Nat)=0 then _ else _)=_
     rw[if_pos rfl];rfl
    have z:((codes.drop i).take n).countP (λx=>x == b)=0:=List.countP_eq_zero.mpr λx hx=>by
     intro q
     have q:x=b:=eq_of_beq q
     exact hb.1 (by rw[←q];exact List.mem_of_mem_drop (List.mem_of_mem_take hx))
    rw[en,zaB,split,List.filter_append,List.length_append,zhR,if_neg hb.2,i1,z]
    refine⟨rfl,?_,λx hx=>?_,rfl⟩
    ·rw[List.length_append,List.length_replicate,i2];omega
    ·rcases List.mem_cons.mp hx with e|e
     ·rw[e];exact⟨hb.2,p1⟩
     ·exact i3 x e
theorem zgl (D:DsOk codes ds):∀(cs:List Choice) (i k:Nat) (B:List Nat),Path cap loads ds i k cs→(∀b∈B,b∉codes∧b≠0)→B.Nodup→wanted (cs.map (codeOf ds))≤B.length→
  ((named (cs.map (codeOf ds)) B).map (·.2)).Nodup∧∀c∈(named (cs.map (codeOf ds)) B).map (·.2),c∈B∨∃j x,k≤j∧ds[j]?=some x∧x.1=c
 | [],i,k,B,p,_,_,_=>⟨List.nodup_nil,λx h=>nomatch h⟩
 | c::l,i,k,B,p,hB,hnd,hw=>by
  obtain⟨n,o,m⟩:=c
  obtain⟨p1,p2,p3,p4,p5⟩:=p
  cases o with
  | some j =>
   obtain⟨g1,c0,b,mm,g2,g3⟩:=p4
   obtain⟨e1,e2,e3⟩:=zi5 D g2
   have ec:codeOf ds ⟨n,some j,m⟩=(n,c0):=by
    show (n,(ds.getD j (0,0,0)).1)=_
    rw[e1]
   rw[List.map_cons,ec] at hw ⊢
   rw[zbh,if_neg e2,Nat.zero_add] at hw
   obtain⟨i1,i2⟩:=zgl D l (i+n) (j+1) B p5 hB hnd hw
   have en:named ((n,c0)::l.map (codeOf ds)) B=(n,c0)::named (l.map (codeOf ds)) B:=by
    show (if c0=0 then _ else _)=_
    rw[if_neg e2]
   rw[en,List.map_cons]
   refine⟨List.nodup_cons.mpr ⟨λhm=>?_,i1⟩,λx hx=>?_⟩
   ·rcases i2 _ hm with z|⟨j',x,h1,h2,h3⟩
    ·exact(hB _ z).1 e3
    ·obtain⟨c1,b1,m1⟩:=x
     have h3:c1=c0:=h3
     subst h3
     have:=D.inj j j' c1 b mm b1 m1 g2 h2
     omega
   ·rcases List.mem_cons.mp hx with e|e
    ·exact .inr ⟨j,_,g1,g2,e.symm⟩
    ·rcases i2 _ e with z|⟨j',x',h1,h2,h3⟩
     ·exact .inl z
     ·exact .inr ⟨j',x',by have h1:j+1≤j':=h1;have g1:k≤j:=g1;omega,h2,h3⟩
  | none =>
   have ec:codeOf ds ⟨n,none,m⟩=(n,0):=rfl
   rw[List.map_cons,ec] at hw ⊢
   rw[zbh,if_pos rfl] at hw
   cases B with
   | nil=>simp at hw
   | cons b B =>
    rw[List.nodup_cons] at hnd
    have hb:=hB b List.mem_cons_self
    obtain⟨i1,i2⟩:=zgl D l (i+n) k B p5 (λx hx=>hB x (List.mem_cons_of_mem _ hx)) hnd.2 (by simp at hw;omega)
    have en:named ((n,0)::l.map (codeOf ds)) (b::B)=(n,b)::named (l.map (codeOf ds)) B:=by
     show (if (0:Nat)=0 then _ else _)=_
     rw[if_pos rfl];rfl
    rw[en,List.map_cons]
    refine⟨List.nodup_cons.mpr ⟨λhm=>?_,i1⟩,λx hx=>?_⟩
    ·rcases i2 _ hm with z|⟨j',x,h1,h2,h3⟩
     ·exact hnd.1 z
     ·obtain⟨c1,b1,m1⟩:=x
      have h3:c1=b:=h3
      subst h3
      exact hb.1 (zi5 D h2).2.2
    ·rcases List.mem_cons.mp hx with e|e
     ·exact .inl (by rw[e];exact List.mem_cons_self)
     ·rcases i2 _ e with z|⟨j',x',h1,h2,h3⟩
      ·exact .inl (List.mem_cons_of_mem _ z)
      ·exact .inr ⟨j',x',h1,h2,h3⟩
end
def walkS (s:State):List (Nat×Nat):=walk (codesOf s) ((loadsOf s).length+1) 0 false (tab s.cap (loadsOf s) (codesOf s) (loadsOf s).length 0)
theorem lens (s:State):(loadsOf s).length=(codesOf s).length:=by unfold loadsOf codesOf;simp
theorem zkr {s:State} {l:Nat} (h:l∈loadsOf s) (hc:s.cap < l):bestWorth s=none:=by
 obtain⟨p,hp,e⟩:=List.getElem_of_mem h
 exact heavy hp (by rw[e];exact hc) _ _ 0 0 (Nat.le_refl _) (by omega) (Nat.zero_le _)
structure PlanIs (s:State) (w:Worth) (l:List (Nat×Nat)):Prop where
 d:w.districts=l.length
 kept:w.kept=keptBy s (spread l)
 len:(spread l).length=s.points.length
 pos:∀x∈l,x.2≠0∧0 < x.1
 nd:(l.map (·.2)).Nodup
 from_:∀c∈l.map (·.2),c∈codesOf s∨(100≤c∧c≤999)
theorem zkq {s:State} (hC:Ctg (codesOf s)) (hc:∀l∈loadsOf s,l≤s.cap) :
  ∃w,bestWorth s=some w∧
   (
    (wanted (walkS s)≤(freeL s).length∧plan s=some (named (walkS s) (freeL s))∧PlanIs s w (named (walkS s) (freeL s)))∨
    ((freeL s).length < wanted (walkS s)∧plan s=none)):=by
 have D:=ds_ok hC
 have hm:=main (lens s) D hc _ (loadsOf s).length 0 0 false (Nat.le_refl _) (by omega) flag0 (Nat.zero_le _)
 obtain⟨t1,t2,t3,t4⟩:=zhj (lens s) D hc ((loadsOf s).length+1) (loadsOf s).length 0 0 false (by omega) (by omega) flag0 (Nat.zero_le _)
 refine⟨_,hm,?_⟩
 have hk:∀c∈((bestChoices s).filterMap λc=>c.old.map λj=>((olds 0 (codesOf s)).getD j (0,0,0)).1),c∈codesOf s:=λc hx=>by
  obtain⟨ch,h1,h2⟩:=List.mem_filterMap.mp hx
  cases q:ch.old with
  | none=>rw[q] at h2;cases h2
  | some j =>
   rw[q] at h2
   have h2:=Option.some.inj h2
   have:=(zjA D t2 ch h1 j q).2.2.1
   rw[←h2];exact this
 have hp:plan s=if wanted (walkS s)≤(freeL s).length then some (named (walkS s) (freeL s)) else none:=by
  have:=zjY (ds:=olds 0 (codesOf s)) hk (bestChoices s) [] (freeL s) (λc hc j hj=>(zjA D t2 c hc j hj).2.1) rfl
  have e:(bestChoices s).map (codeOf (olds 0 (codesOf s)))=walkS s:=t1
  rw[e] at this
  exact this
 by_cases hw:wanted (walkS s)≤(freeL s).length
 ·rw[if_pos hw] at hp
  refine .inl ⟨hw,hp,?_⟩
  have e:(bestChoices s).map (codeOf (olds 0 (codesOf s)))=walkS s:=t1
  have hB:∀b∈freeL s,b∉codesOf s∧b≠0:=λb hb=>let ⟨h1,h2,h3⟩:=zi4 hb;⟨h3,by omega⟩
  obtain⟨c1,c2,c3,_⟩:=zgk D (lens s) (bestChoices s) 0 0 (freeL s) t2 hB (by rw[e];exact hw)
  obtain⟨c4,c5⟩:=zgl D (bestChoices s) 0 0 (freeL s) t2 hB (zi3 s) (by rw[e];exact hw)
  rw[e] at c1 c2 c3 c4 c5
  refine⟨?_,?_,?_,c3,c4,λc hc'=>?_⟩
  ·show (headC _ _ _ _ _ _).d=_
   rw[t3]
   have:=congrArg List.length (zeS (walkS s) (freeL s))
   rw[List.length_map,List.length_map] at this
   rw[this,←e,List.length_map];rfl
  ·show (headC _ _ _ _ _ _).kept=_
   rw[t4]
   exact c1.symm
  ·rw[c2];unfold loadsOf;simp
  ·rcases c5 c hc' with z|⟨j,x,_,h2,h3⟩
   ·have:=zi4 z
    exact .inr ⟨this.1,this.2.1⟩
   ·obtain⟨c1,b,m⟩:=x
    have h3:c1=c:=h3
    subst h3
    exact .inl (zi5 D h2).2.2
 ·rw[if_neg hw] at hp
  exact .inr ⟨by omega,hp⟩
end Pd
end
section
namespace Pd
open Vbpoan
def addC (l:List Nat) (c:Nat):List Nat:=if c=0∨c∈l then l else l++[c]
def codesD (l:List Nat):List Nat:=l.foldl addC []
theorem zmG {l:List Nat} {c:Nat} (h:c=0∨c∈l):addC l c=l:=if_pos h
theorem zpW {l:List Nat} {c:Nat} (h0:c≠0) (h:c∉l):addC l c=l++[c]:=if_neg λz=>z.elim h0 h
theorem zau {α:Type} {l:List α} {i:Nat} {x:α} (h:l[i]?=some x):l.take (i+1)=l.take i++[x]:=by
 obtain⟨h1,e⟩:=List.getElem?_eq_some_iff.mp h
 rw[List.take_succ,h];rfl
theorem zic (l:List Nat) (c:Nat):codesD (l++[c])=addC (codesD l) c:=by
 unfold codesD;rw[List.foldl_append];rfl
theorem zn8 (l:List Nat):∀acc:List Nat,l.foldl addC acc=acc++(l.filter λc=>decide (c≠0∧c∉acc)).eraseDups:=by
 induction l with
 | nil=>intro acc;simp
 | cons c l ih =>
  intro acc
  rw[List.foldl_cons,ih]
  by_cases h:c=0∨c∈acc
  ·rw[zmG h,List.filter_cons,if_neg (by
    intro z
    have z:=of_decide_eq_true z
    exact h.elim z.1 z.2)]
  ·have h0:c≠0:=λz=>h (.inl z)
   have h1:c∉acc:=λz=>h (.inr z)
   rw[zpW h0 h1,List.filter_cons,if_pos (decide_eq_true ⟨h0,h1⟩),List.eraseDups_cons,List.append_assoc,List.filter_filter]
   congr 1
   rw[List.singleton_append]
   congr 2
   apply List.filter_congr
   intro x _
   rw[Bool.eq_iff_iff]
   simp only[decide_eq_true_eq,Bool.and_eq_true,Bool.not_eq_true',beq_eq_false_iff_ne,List.mem_append,List.mem_singleton]
   constructor
   ·rintro ⟨a,b⟩;exact⟨λe=>b (.inr e),a,λe=>b (.inl e)⟩
   ·rintro ⟨a,b,c⟩;exact⟨b,λe=>e.elim c a⟩
theorem zdS (p:Nat→Bool):∀(k:Nat) (l:List Nat),l.length≤k→(l.filter p).eraseDups=l.eraseDups.filter p
 | _,[],_=>by simp
 | 0,_::_,h=>by simp at h
 | k+1,a::l,h=>by
  have hl:∀q:Nat→Bool,(l.filter q).length≤k:=λq=>Nat.le_trans (List.length_filter_le _ _) (by simp at h;omega)
  rw[List.eraseDups_cons,List.filter_cons,List.filter_cons,←zdS p k _ (hl _)]
  by_cases hp:p a=true
  ·rw[if_pos hp,if_pos hp,List.eraseDups_cons,List.filter_filter,List.filter_filter]
   congr 2
   apply List.filter_congr
   intro x _
   exact Bool.and_comm _ _
  ·rw[if_neg hp,if_neg hp,List.filter_filter]
   congr 1
   apply List.filter_congr
   intro x _
   by_cases e:x=a
   ·subst e
    simp at hp
    simp[hp]
   ·simp[e]
theorem zl3 (l:List Nat):codesD l=l.eraseDups.filter λc=>c != 0:=by
 unfold codesD
 rw[zn8,List.nil_append,←zdS _ l.length l (Nat.le_refl _)]
 congr 1
 apply List.filter_congr
 intro x _
 by_cases e:x=0
 ·subst e;rfl
 ·simp[e]
theorem zel {l:List Nat} {c:Nat}:c∈codesD l↔c≠0∧c∈l:=by
 rw[zl3,List.mem_filter,List.mem_eraseDups]
 simp
 exact And.comm
theorem zdT:∀(l acc:List Nat),acc.Nodup→(l.foldl addC acc).Nodup
 | [],acc,h=>h
 | c::l,acc,h=>by
  rw[List.foldl_cons]
  refine zdT l _ ?_
  unfold addC
  split
  ·exact h
  ·rename_i z
   refine List.nodup_append.mpr ⟨h,by simp,?_⟩
   intro a ha b hb e
   subst e
   exact z (.inr (by rw[List.mem_singleton.mp hb] at ha;exact ha))
theorem zl2 (l:List Nat):(codesD l).Nodup:=zdT l [] List.nodup_nil
theorem zcH (l:List Nat):(codesD l).length≤l.length:=by
 have:∀(l acc:List Nat),(l.foldl addC acc).length≤acc.length+l.length:=by
  intro l
  induction l with
  | nil=>intro acc;simp
  | cons c l ih =>
   intro acc
   rw[List.foldl_cons]
   have h1:=ih (addC acc c)
   have h2:(addC acc c).length≤acc.length+1:=by
    unfold addC;split<;>simp
   simp only[List.length_cons]
   omega
 have h:=this l []
 simpa[codesD] using h
theorem zlw {l:List Nat} (h:Ctg l):(olds 0 l).length=(codesD l).length:=by
 have D:=ds_ok h
 have e:((olds 0 l).map (·.1)).length=(codesD l).length:=by
  apply List.Perm.length_eq
  refine(List.perm_ext_iff_of_nodup ?_ (zl2 l)).mpr λc=>?_
  ·rw[List.nodup_iff_pairwise_ne,List.pairwise_iff_getElem]
   intro i j hi hj hij e
   rw[List.getElem_map,List.getElem_map] at e
   rw[List.length_map] at hi hj
   have q:=D.inj i j ((olds 0 l)[i]).1 ((olds 0 l)[i]).2.1 ((olds 0 l)[i]).2.2 ((olds 0 l)[j]).2.1 ((olds 0 l)[j]).2.2 (List.getElem?_eq_getElem hi) (by rw[e];exact List.getElem?_eq_getElem hj)
   omega
  ·rw[zel,List.mem_map]
   constructor
   ·rintro ⟨⟨c',b,m⟩,hx,e⟩
    have e:c'=c:=e
    subst e
    obtain⟨j,hj⟩:=List.getElem?_of_mem hx
    obtain⟨h1,h2,h3⟩:=D.mem j c' b m hj
    exact⟨h1,List.mem_of_getElem? (h3 b (Nat.le_refl _) (by omega))⟩
   ·rintro ⟨h1,h2⟩
    obtain⟨p,hp⟩:=List.getElem?_of_mem h2
    obtain⟨j,b,m,hj,_⟩:=D.cover p c hp h1
    exact⟨_,List.mem_of_getElem? hj,rfl⟩
 rw[List.length_map] at e
 exact e
def lostOf (before now:List Nat):List Nat:=(codesD before).filter λc=>!(codesD now).contains c
theorem zqv (before now:List Nat):(before.eraseDups.filter λc=>c != 0 && !(now.contains c))=lostOf before now:=by
 unfold lostOf
 rw[zl3 before,List.filter_filter]
 apply List.filter_congr
 intro x _
 by_cases e:x=0
 ·subst e;simp
 ·have:(codesD now).contains x=now.contains x:=by
   rw[Bool.eq_iff_iff,List.contains_iff_mem,List.contains_iff_mem,zel]
   exact⟨λz=>z.2,λz=>⟨e,z⟩⟩
  rw[this,Bool.and_comm]
theorem zeT (a b:List Nat):(lostOf a b).length≤a.length:=Nat.le_trans (List.length_filter_le _ _) (zcH a)
theorem zft (s:State) (before:List Nat):retire s before={ s with retired:=s.retired++(lostOf before (codesOf s)).map λc=>⟨c,s.day⟩ }:=by
 unfold retire
 rw[←zqv]
def readsB (s:State) (o:Old):Bool:=decide (s.day≤o.until_+s.grace)
def stillRead (s:State) (p:Point):List Nat:=(p.olds.filter (readsB s)).map (·.code)
def retB (s:State) (r:Retired):Bool:=decide (s.day≤r.day+s.grace)
def Held (s:State) (c:Nat):Prop:=(c≠0∧c∈codesOf s)∨(∃p∈s.points,c∈stillRead s p)∨∃r∈s.retired,retB s r=true∧r.code=c
theorem zlH {s:State} {c:Nat} (h0:c≠0):isFree s [] c=true↔¬ Held s c:=by
 unfold isFree Held
 simp only[List.contains_nil,Bool.not_false,Bool.true_and,Bool.and_eq_true,Bool.not_eq_true',List.all_eq_true,Bool.or_eq_true,bne_iff_ne,decide_eq_true_eq]
 constructor
 ·rintro ⟨a,b,d⟩ (⟨_,z⟩|⟨p,hp,z⟩|⟨r,hr,z1,z2⟩)
  ·rw[List.contains_iff_mem.mpr z] at a;cases a
  ·unfold stillRead at z
   obtain⟨o,ho,e⟩:=List.mem_map.mp z
   obtain⟨ho,hb⟩:=List.mem_filter.mp ho
   unfold readsB at hb
   have hb:=of_decide_eq_true hb
   rcases b p hp o ho with q|q
   ·exact q e
   ·omega
  ·unfold retB at z1
   have z1:=of_decide_eq_true z1
   rcases d r hr with q|q
   ·exact q z2
   ·omega
 ·intro h
  refine⟨?_,λp hp o ho=>?_,λr hr=>?_⟩
  ·rw[Bool.eq_false_iff]
   intro z
   exact h (.inl ⟨h0,List.contains_iff_mem.mp z⟩)
  ·by_cases e:o.code=c
   ·refine .inr ?_
    by_cases q:o.until_+s.grace < s.day
    ·exact q
    ·refine(h (.inr (.inl ⟨p,hp,List.mem_map.mpr ⟨o,List.mem_filter.mpr ⟨ho,?_⟩,e⟩⟩))).elim
     unfold readsB
     exact decide_eq_true (by omega)
   ·exact .inl e
  ·by_cases e:r.code=c
   ·refine .inr ?_
    by_cases q:r.day+s.grace < s.day
    ·exact q
    ·refine(h (.inr (.inr ⟨r,hr,?_,e⟩))).elim
     unfold retB
     exact decide_eq_true (by omega)
   ·exact .inl e
theorem znF (s:State) (x:Point) (c:Nat):readAs s x c=if c=x.code then 1 else if c∈stillRead s x then 2 else 0:=by
 unfold readAs
 by_cases e:x.code=c
 ·rw[if_pos e,if_pos e.symm]
 ·rw[if_neg e,if_neg (Ne.symm e)]
  have:((x.olds.any λo=>o.code == c && decide (s.day≤o.until_+s.grace))=true)↔c∈stillRead s x:=by
   unfold stillRead readsB
   rw[List.any_eq_true,List.mem_map]
   constructor
   ·rintro ⟨o,ho,z⟩
    rw[Bool.and_eq_true] at z
    exact⟨o,List.mem_filter.mpr ⟨ho,z.2⟩,eq_of_beq z.1⟩
   ·rintro ⟨o,ho,z⟩
    obtain⟨h1,h2⟩:=List.mem_filter.mp ho
    exact⟨o,h1,by rw[Bool.and_eq_true];exact⟨beq_iff_eq.mpr z,h2⟩⟩
  by_cases q:c∈stillRead s x
  ·rw[if_pos q,if_pos (this.mpr q)]
  ·rw[if_neg q,if_neg λz=>q (this.mp z)]
theorem zfe (l:List (Nat×Nat)):(spread l).length=nsum (l.map (·.1)):=by
 induction l with
 | nil=>rfl
 | cons x l ih=>obtain⟨n,c⟩:=x;rw[zaB,List.length_append,List.length_replicate,ih];rfl
theorem zff (a b:List (Nat×Nat)):spread (a++b)=spread a++spread b:=by
 induction a with
 | nil=>rfl
 | cons x a ih=>obtain⟨n,c⟩:=x;rw[List.cons_append,zaB,zaB,ih,List.append_assoc]
def keptC (codes cs:List Nat):Nat:=((codes.zip cs).filter λx=>x.2 == x.1).length
theorem zhZ {s:State} {cs:List Nat} (h:∀c∈cs,c≠0):keptBy s cs=keptC (codesOf s) cs:=by
 unfold keptBy keptC
 show (((codesOf s).zip cs).filter (λx=>x.1 == x.2 && x.1 != 0)).length=_
 congr 1
 apply List.filter_congr
 rintro ⟨a,b⟩ hx
 have hb:=h b (List.of_mem_zip hx).2
 by_cases e:a=b
 ·subst e
  show ((a == a) && (a != 0))=(a == a)
  rw[bne_iff_ne.mpr hb,Bool.and_true]
 ·have h1:(a == b)=false:=beq_eq_false_iff_ne.mpr e
  have h2:(b == a)=false:=beq_eq_false_iff_ne.mpr (Ne.symm e)
  show ((a == b) && (a != 0))=(b == a)
  rw[h1,h2];rfl
end Pd
end
section
namespace Pd
open Vbpoan
def numOf (l:List Int):Int:=l.foldl (λn d=>10 * n+d - 48) 0
def textI (n:Int):List Int:=[48+n / 100,48+n / 10 % 10,48+n % 10,65+(n / 100+2 * (n / 10 % 10)+3 * (n % 10)) % 11]
def codeI (b:Bytes):Int:=((readCode b).getD 0:Nat)
theorem zgQ (b:Bytes):(bytes b).length=b.length:=by unfold bytes;rw[List.length_map]
theorem u8 {n:Nat} (h:n < 256):(UInt8.ofNat n).toNat=n:=by
 rw[UInt8.toNat_ofNat'];omega
theorem zp7 {c:Int} (h1:100≤c) (h2:c≤999):bytes (textOf c.toNat)=textI c:=by
 obtain⟨n,rfl⟩:∃n:Nat,c=(n:Int):=⟨c.toNat,by omega⟩
 unfold bytes textOf textI checkOf
 simp only[Int.toNat_natCast,List.map_cons,List.map_nil]
 rw[u8 (by omega),u8 (by omega),u8 (by omega),u8 (by omega)]
 have a1:(n:Int) / 100=((n / 100:Nat):Int):=by omega
 have a2:(n:Int) / 10 % 10=((n / 10 % 10:Nat):Int):=by omega
 have a3:(n:Int) % 10=((n % 10:Nat):Int):=by omega
 rw[a1,a2,a3]
 simp only[List.cons.injEq,and_true]
 generalize n / 100=p
 generalize n / 10 % 10=q
 generalize n % 10=r
 refine⟨?_,?_,?_,?_⟩<;>omega
def num3 (x y z:UInt8):Nat:=100 * (x.toNat - 48)+(10 * (y.toNat - 48)+(z.toNat - 48))
theorem read4 (x y z w:UInt8):readCode [x,y,z,w]=if (isDigit x && (isDigit y && isDigit z))=true then (if FIRST≤num3 x y z∧w.toNat=65+checkOf (num3 x y z) then some (num3 x y z) else none) else none:=rfl
theorem zmj {b:Bytes} (h:b.length≠4):readCode b=none:=by
 unfold readCode
 split
 ·exact absurd rfl h
 ·rfl
theorem zoJ {b:Bytes} (h:b.length≠4):codeI b=0:=by unfold codeI;rw[zmj h];rfl
theorem zc8 (c:UInt8):isDigit c=true↔48≤c.toNat∧c.toNat≤57:=by
 unfold isDigit;rw[Bool.and_eq_true,decide_eq_true_eq,decide_eq_true_eq]
theorem four {α:Type} {b:List α} (h:b.length=4):∃x y z w,b=[x,y,z,w]:=by
 match b,h with
 | [x,y,z,w],_=>exact⟨x,y,z,w,rfl⟩
theorem zpe {b:Bytes} (h:b.length=4) {j:Nat} {d:Int} (hj:j < 3) (hd:(bytes b)[j]?=some d) (hb:d < 48∨57 < d):codeI b=0:=by
 obtain⟨x,y,z,w,rfl⟩:=four h
 have q:¬ ((isDigit x && (isDigit y && isDigit z))=true):=by
  rw[Bool.and_eq_true,Bool.and_eq_true,zc8,zc8,zc8]
  rintro ⟨h1,h2,h3⟩
  match j,hj,hd with
  | 0,_,hd=>have e:((x.toNat:Nat):Int)=d:=Option.some.inj hd;omega
  | 1,_,hd=>have e:((y.toNat:Nat):Int)=d:=Option.some.inj hd;omega
  | 2,_,hd=>have e:((z.toNat:Nat):Int)=d:=Option.some.inj hd;omega
 unfold codeI
 rw[read4,if_neg q];rfl
theorem znE {b:Bytes} (h:b.length=4) (hd:∀d∈(bytes b).take 3,48≤d∧d≤57) :
  0≤numOf ((bytes b).take 3)∧numOf ((bytes b).take 3)≤999∧(codeI b=if numOf ((bytes b).take 3) < 100∨bytes b≠textI (numOf ((bytes b).take 3)) then 0 else numOf ((bytes b).take 3)):=by
 obtain⟨x,y,z,w,rfl⟩:=four h
 have hx:=hd (x.toNat:Int) (by simp[bytes])
 have hy:=hd (y.toNat:Int) (by simp[bytes])
 have hz:=hd (z.toNat:Int) (by simp[bytes])
 have e:numOf ((bytes [x,y,z,w]).take 3)=10 * (10 * (10 * 0+(x.toNat:Int) - 48)+(y.toNat:Int) - 48)+(z.toNat:Int) - 48:=rfl
 rw[e]
 obtain⟨X,eX⟩:∃X:Nat,x.toNat=48+X:=⟨x.toNat - 48,by omega⟩
 obtain⟨Y,eY⟩:∃X:Nat,y.toNat=48+X:=⟨y.toNat - 48,by omega⟩
 obtain⟨Z,eZ⟩:∃X:Nat,z.toNat=48+X:=⟨z.toNat - 48,by omega⟩
 refine⟨by omega,by omega,?_⟩
 have q:(isDigit x && (isDigit y && isDigit z))=true:=by
  rw[Bool.and_eq_true,Bool.and_eq_true,zc8,zc8,zc8]
  omega
 unfold codeI
 rw[read4,if_pos q]
 have eN:(10 * (10 * (10 * 0+(x.toNat:Int) - 48)+(y.toNat:Int) - 48)+(z.toNat:Int) - 48)=((100 * X+10 * Y+Z:Nat):Int):=by omega
 have eM:num3 x y z=100 * X+10 * Y+Z:=by unfold num3;omega
 rw[eN,eM]
 have hX:X≤9:=by omega
 have hY:Y≤9:=by omega
 have hZ:Z≤9:=by omega
 generalize eK:100 * X+10 * Y+Z=N
 have n1:N / 100=X:=by omega
 have n2:N / 10 % 10=Y:=by omega
 have n3:N % 10=Z:=by omega
 have et:bytes [x,y,z,w]=textI (N:Int)↔w.toNat=65+checkOf N:=by
  have t:textI (N:Int)=[48+(X:Int),48+(Y:Int),48+(Z:Int),((65+checkOf N:Nat):Int)]:=by
   unfold textI checkOf
   rw[n1,n2,n3]
   simp only[List.cons.injEq,and_true]
   refine⟨by omega,by omega,by omega,?_⟩
   have m1:(N:Int) / 100=(X:Int):=by omega
   have m2:(N:Int) / 10 % 10=(Y:Int):=by omega
   have m3:(N:Int) % 10=(Z:Int):=by omega
   rw[m1,m2,m3]
   omega
  rw[t]
  show [((x.toNat:Nat):Int),((y.toNat:Nat):Int),((z.toNat:Nat):Int),((w.toNat:Nat):Int)]=_↔_
  simp only[List.cons.injEq,and_true]
  constructor
  ·rintro ⟨_,_,_,q⟩;exact Int.ofNat.inj q
  ·intro q
   refine⟨by omega,by omega,by omega,by rw[q]⟩
 by_cases c:FIRST≤N∧w.toNat=65+checkOf N
 ·rw[if_pos c,if_neg (by
   rintro (z|z)
   ·have:=c.1;unfold FIRST at this;omega
   ·exact z (et.mpr c.2))]
  rfl
 ·rw[if_neg c,if_pos (by
   by_cases z:(N:Int) < 100
   ·exact .inl z
   ·refine .inr λq=>c ⟨?_,et.mp q⟩
    unfold FIRST;omega)]
  rfl
theorem zgm {b:Bytes} {n:Nat} (h:readCode b=some n):codeI b=n∧n≠0:=by
 refine⟨by unfold codeI;rw[h];rfl,?_⟩
 by_cases hl:b.length=4
 ·obtain⟨x,y,z,w,rfl⟩:=four hl
  rw[read4] at h
  split at h
  ·split at h
   ·rename_i c
    have:=Option.some.inj h
    have h1:=c.1
    unfold FIRST at h1
    omega
   ·cases h
  ·cases h
 ·rw[zmj hl] at h;cases h
theorem zjf {b:Bytes} (h:readCode b=none):codeI b=0:=by unfold codeI;rw[h];rfl
theorem byteAll:∀{l:List Int},(l.all λ(z:Int)=>(decide (0≤z) && decide (z < 2 ^ 8)))=true→∃b:Bytes,l=bytes b
 | [],_=>⟨[],rfl⟩
 | z::l,h=>by
  rw[List.all_cons,Bool.and_eq_true,Bool.and_eq_true,decide_eq_true_eq,decide_eq_true_eq] at h
  obtain⟨b,rfl⟩:=byteAll h.2
  refine⟨UInt8.ofNat z.toNat::b,?_⟩
  show z::bytes b=((UInt8.ofNat z.toNat).toNat:Int)::bytes b
  rw[u8 (by have:=h.1.2;omega)]
  congr 1
  omega
theorem zgO:∀{l:List Nat},distinct l=true↔l.Nodup
 | []=>by simp[distinct]
 | a::l=>by
  show (!(l.contains a) && distinct l)=true↔_
  rw[Bool.and_eq_true,zgO,List.nodup_cons,Bool.not_eq_true',Bool.eq_false_iff]
  simp
theorem zeV:∀(sizes loads:List Nat) (i n:Nat),sizes[i]?=some n→(loadsIn sizes loads)[i]?=some (nsum ((loads.drop (nsum (sizes.take i))).take n))
 | [],_,i,n,h=>by simp at h
 | a::l,loads,0,n,h=>by
  have e:a=n:=Option.some.inj h
  subst e
  show some (nsum (loads.take a))=some (nsum ((loads.drop 0).take a))
  rfl
 | a::l,loads,i+1,n,h=>by
  show (loadsIn l (loads.drop a))[i]?=_
  rw[zeV l (loads.drop a) i n h,List.drop_drop]
  rfl
theorem zeG:∀(sizes loads:List Nat),(loadsIn sizes loads).length=sizes.length
 | [],_=>rfl
 | a::l,loads=>by show (loadsIn l _).length+1=_;rw[zeG];rfl
def borne (cap:Nat) (loads sizes:List Nat):Bool:=(loadsIn sizes loads).all λx=>decide (x≤cap)
theorem zoQ {cap:Nat} {loads sizes:List Nat} {i n:Nat} (h:sizes[i]?=some n) (hc:cap < nsum ((loads.drop (nsum (sizes.take i))).take n)):borne cap loads sizes=false:=by
 unfold borne
 rw[Bool.eq_false_iff]
 intro z
 have:=of_decide_eq_true (List.all_eq_true.mp z _ (List.mem_of_getElem? (zeV sizes loads i n h)))
 omega
theorem zno {cap:Nat} {loads sizes:List Nat} (h:∀(i n:Nat),sizes[i]?=some n→nsum ((loads.drop (nsum (sizes.take i))).take n)≤cap):borne cap loads sizes=true:=by
 unfold borne
 rw[List.all_eq_true]
 intro x hx
 obtain⟨i,hi⟩:=List.getElem?_of_mem hx
 have hl:i < sizes.length:=by
  rw[←zeG sizes loads];exact(List.getElem?_eq_some_iff.mp hi).1
 have e:=zeV sizes loads i sizes[i] (List.getElem?_eq_getElem hl)
 rw[hi] at e
 rw[Option.some.inj e]
 exact decide_eq_true (h i _ (List.getElem?_eq_getElem hl))
def allIn (s:State) (sizes:List Nat):Bool:=!(sizes.contains 0) && decide (nsum sizes=s.points.length)
def mayGive (s:State) (c:Nat):Bool:=decide (100≤c∧c≤999) && isFree s [] c
def fitB (s:State) (codes:List Nat):Bool:=decide codes.Nodup && codes.all λc=>(codesD (codesOf s)).contains c || mayGive s c
theorem zpx {s:State} (hc:∀c∈codesOf s,c=0∨(100≤c∧c≤999)) (sizes codes:List Nat) :
  mayBe s sizes codes=(decide (sizes.length=codes.length) && (allIn s sizes && (fitB s codes && borne s.cap (loadsOf s) sizes))):=by
 have e1:sizes.all (λn=>decide (1≤n)) = !(sizes.contains 0):=by
  rw[Bool.eq_iff_iff,List.all_eq_true,Bool.not_eq_true',Bool.eq_false_iff]
  constructor
  ·intro h z
   have:=of_decide_eq_true (h 0 (List.contains_iff_mem.mp z))
   omega
  ·intro h x hx
   refine decide_eq_true ?_
   by_cases e:x=0
   ·subst e;exact(h (List.contains_iff_mem.mpr hx)).elim
   ·omega
 have e2:distinct codes=decide codes.Nodup:=by rw[Bool.eq_iff_iff,zgO,decide_eq_true_eq]
 have e3:(codes.all λc=>decide (100≤c) && (decide (c≤999) && ((codesOf s).contains c || isFree s [] c)))=codes.all λc=>(codesD (codesOf s)).contains c || mayGive s c:=by
  congr 1
  funext c
  rw[Bool.eq_iff_iff]
  unfold mayGive
  simp only[Bool.and_eq_true,Bool.or_eq_true,decide_eq_true_eq,List.contains_iff_mem,zel]
  constructor
  ·rintro ⟨a,b,d|d⟩
   ·exact .inl ⟨by omega,d⟩
   ·exact .inr ⟨⟨a,b⟩,d⟩
  ·rintro (⟨a,b⟩|⟨⟨a,b⟩,d⟩)
   ·rcases hc c b with z|z
    ·exact(a z).elim
    ·exact⟨z.1,z.2,.inl b⟩
   ·exact⟨a,b,.inr d⟩
 unfold mayBe allIn fitB borne
 rw[e1,e2,e3]
 cases decide (sizes.length=codes.length)<;>cases !(sizes.contains 0)<;>cases decide (nsum sizes=s.points.length)<;>cases decide codes.Nodup<;>simp[Bool.and_comm]
theorem zpw {s:State} {x y:List Nat} (h:mayBe s x y=true):∀c∈spread (x.zip y),c≠0:=by
 intro c hc
 obtain⟨n,hn⟩:=zek hc
 have hy:=(List.of_mem_zip hn).2
 unfold mayBe at h
 simp only[Bool.and_eq_true] at h
 have:=(List.all_eq_true.mp h.2.2.2.2.2) c hy
 simp only[Bool.and_eq_true,decide_eq_true_eq] at this
 omega
end Pd
end
section
namespace Pd
open Vbpoan
theorem zp1 (c:List (List Int)):PyVbpoan.whole c=c:=by
 rcases c with _|⟨_|⟨p,r⟩,c⟩
 ·rfl
 ·rfl
 rcases p with n|n
 ·by_cases q:n < 19
  ·have e {P:Nat→Prop} (a0:P 0) (a1:P 1) (a2:P 2) (a3:P 3) (a4:P 4) (a5:P 5) (a6:P 6) (a7:P 7) (a8:P 8) (a9:P 9) (b0:P 10) (b1:P 11) (b2:P 12) (b3:P 13) (b4:P 14) (b5:P 15) (b6:P 16) (b7:P 17) (b8:P 18):P n:=by
    rcases n with _|_|_|_|_|_|_|_|_|_|_|_|_|_|_|_|_|_|_|n<;>first|assumption|omega
   rcases r with _|⟨x,_|⟨y,_|⟨z,r⟩⟩⟩<;>rcases c with _|⟨a,_|⟨b,_|⟨d,c⟩⟩⟩<;>exact e (P:=λn=>PyVbpoan.whole ((Int.ofNat n::_)::_)=(Int.ofNat n::_)::_) rfl rfl rfl rfl rfl rfl rfl rfl rfl rfl rfl rfl rfl rfl rfl rfl rfl rfl rfl
  ·obtain⟨k,rfl⟩:=Nat.exists_eq_add_of_le' (Nat.le_of_not_lt q);rfl
 ·rfl
theorem zo3 (cs:List (List (List Int))):cs.map PyVbpoan.whole=cs:=by
 have:PyVbpoan.whole=id:=funext zp1
 rw[this,List.map_id]
inductive Parsed:Int→List Int→List (List Int)→List Int→Prop
 | n2 {p x y:Int} {t:List Int} (h:p=0∨p=1∨p=2):Parsed p (x::y::t) [[p,x,y]] t
 | n1 {p x:Int} {t:List Int} (h:p=3∨p=4∨p=5∨p=9∨p=10∨p=12∨p=14∨p=17):Parsed p (x::t) [[p,x]] t
 | n0 {p:Int} {t:List Int} (h:p=6∨p=7∨p=15∨p=16∨p=18):Parsed p t [[p]] t
 | r2 {a b t:List Int}:Parsed 8 ((a.length:Int)::(a++((b.length:Int)::(b++t)))) [[8],a,b] t
 | nr {x:Int} {a t:List Int}:Parsed 11 (x::(a.length:Int)::(a++t)) [[11,x],a] t
 | r1 {a t:List Int}:Parsed 13 ((a.length:Int)::(a++t)) [[13],a] t
theorem zpc (n:Int) (r:List Int):PyFlat.row (n::r)=if 0≤n∧n.toNat≤r.length then some (r.take n.toNat,r.drop n.toNat) else none:=rfl
theorem zl4 (sh:Int→Option (Nat×Nat)) (p:Int) (r:List Int):PyFlat.call sh (p::r)=match sh p with
  | none=>none
  | some (n,k)=>if r.length < n then none else match PyFlat.rows k (r.drop n) with
   | none=>none
   | some (xs,t)=>some ((p::r.take n)::xs,t):=rfl
theorem zpb {r a t:List Int} (h:PyFlat.row r=some (a,t)):r=(a.length:Int)::(a++t):=by
 cases r with
 | nil=>cases h
 | cons n r =>
  rw[zpc] at h
  split at h
  ·rename_i q
   have h:=Option.some.inj h
   injection h with h1 h2
   subst h1 h2
   rw[List.take_append_drop,List.length_take]
   congr 1
   omega
  ·cases h
theorem rows0 {r:List Int} {x:List (List Int)×List Int} (h:PyFlat.rows 0 r=some x):x=([],r):=(Option.some.inj h).symm
theorem rows1 {r t:List Int} {xs:List (List Int)} {k:Nat} (h:PyFlat.rows (k+1) r=some (xs,t)):∃a u ys,r=(a.length:Int)::(a++u)∧PyFlat.rows k u=some (ys,t)∧xs=a::ys:=by
 unfold PyFlat.rows at h
 cases e:PyFlat.row r with
 | none=>rw[e] at h;cases h
 | some x =>
  obtain⟨a,u⟩:=x
  rw[e] at h
  cases e2:PyFlat.rows k u with
  | none=>simp only[e2] at h;cases h
  | some y =>
   obtain⟨ys,t'⟩:=y
   simp only[e2] at h
   have h:=Option.some.inj h
   injection h with h1 h2
   subst h1 h2
   exact⟨a,u,ys,zpb e,e2,rfl⟩
theorem zcK {p:Int} {r t:List Int} {c:List (List Int)} {n k:Nat} (hs:PyVbpoan.shape p=some (n,k)) (h:PyFlat.call PyVbpoan.shape (p::r)=some (c,t)) :
  n≤r.length∧∃xs,PyFlat.rows k (r.drop n)=some (xs,t)∧c=(p::r.take n)::xs:=by
 rw[zl4,hs] at h
 simp only at h
 split at h
 ·cases h
 ·rename_i q
  cases e2:PyFlat.rows k (r.drop n) with
  | none=>simp only[e2] at h;cases h
  | some y =>
   obtain⟨ys,t'⟩:=y
   simp only[e2] at h
   have h:=Option.some.inj h
   injection h with h1 h2
   subst h1 h2
   exact⟨by omega,ys,rfl,rfl⟩
theorem sh2 {p:Int} {r t:List Int} {c:List (List Int)} (hs:PyVbpoan.shape p=some (2,0)) (h:PyFlat.call PyVbpoan.shape (p::r)=some (c,t)):∃x y,r=x::y::t∧c=[[p,x,y]]:=by
 obtain⟨h1,xs,h2,h3⟩:=zcK hs h
 match r,h1 with
 | x::y::r,_ =>
  have:=rows0 h2
  injection this with e1 e2
  subst e1 e2
  exact⟨x,y,rfl,h3⟩
theorem sh1 {p:Int} {r t:List Int} {c:List (List Int)} (hs:PyVbpoan.shape p=some (1,0)) (h:PyFlat.call PyVbpoan.shape (p::r)=some (c,t)):∃x,r=x::t∧c=[[p,x]]:=by
 obtain⟨h1,xs,h2,h3⟩:=zcK hs h
 match r,h1 with
 | x::r,_ =>
  have:=rows0 h2
  injection this with e1 e2
  subst e1 e2
  exact⟨x,rfl,h3⟩
theorem sh0 {p:Int} {r t:List Int} {c:List (List Int)} (hs:PyVbpoan.shape p=some (0,0)) (h:PyFlat.call PyVbpoan.shape (p::r)=some (c,t)):r=t∧c=[[p]]:=by
 obtain⟨h1,xs,h2,h3⟩:=zcK hs h
 have:=rows0 h2
 injection this with e1 e2
 subst e1 e2
 exact⟨rfl,h3⟩
theorem zp9 {p:Int} {x:Nat×Nat} (h:PyVbpoan.shape p=some x):0≤p∧p≤18:=by
 unfold PyVbpoan.shape at h
 by_cases q:0≤p∧p≤18
 ·exact q
 ·iterate 19 rw[if_neg (by omega)] at h
  cases h
theorem zm2 {p:Int} {r t:List Int} {c:List (List Int)} (h:PyFlat.call PyVbpoan.shape (p::r)=some (c,t)):Parsed p r c t:=by
 cases hs:PyVbpoan.shape p with
 | none =>
  rw[zl4,hs] at h
  cases h
 | some x =>
  obtain⟨q1,q2⟩:=zp9 hs
  obtain⟨m,rfl⟩:∃m:Nat,p=(m:Int):=⟨p.toNat,by omega⟩
  have q3:m≤18:=by omega
  clear hs
  match m,q3,h with
  | 0,_,h=>obtain⟨x,y,rfl,rfl⟩:=sh2 rfl h;exact .n2 (by omega)
  | 1,_,h=>obtain⟨x,y,rfl,rfl⟩:=sh2 rfl h;exact .n2 (by omega)
  | 2,_,h=>obtain⟨x,y,rfl,rfl⟩:=sh2 rfl h;exact .n2 (by omega)
  | 3,_,h=>obtain⟨x,rfl,rfl⟩:=sh1 rfl h;exact .n1 (by omega)
  | 4,_,h=>obtain⟨x,rfl,rfl⟩:=sh1 rfl h;exact .n1 (by omega)
  | 5,_,h=>obtain⟨x,rfl,rfl⟩:=sh1 rfl h;exact .n1 (by omega)
  | 6,_,h=>obtain⟨rfl,rfl⟩:=sh0 rfl h;exact .n0 (by omega)
  | 7,_,h=>obtain⟨rfl,rfl⟩:=sh0 rfl h;exact .n0 (by omega)
  | 8,_,h =>
   obtain⟨h1,xs,h2,rfl⟩:=zcK (n:=0) (k:=2) rfl h
   obtain⟨a,u,ys,e1,e2,rfl⟩:=rows1 h2
   obtain⟨b,v,zs,e3,e4,rfl⟩:=rows1 e2
   have:=rows0 e4
   injection this with e5 e6
   subst e5 e6
   rw[List.drop_zero] at e1
   subst e1 e3
   exact .r2
  | 9,_,h=>obtain⟨x,rfl,rfl⟩:=sh1 rfl h;exact .n1 (by omega)
  | 10,_,h=>obtain⟨x,rfl,rfl⟩:=sh1 rfl h;exact .n1 (by omega)
  | 11,_,h =>
   obtain⟨h1,xs,h2,rfl⟩:=zcK (n:=1) (k:=1) rfl h
   match r,h1 with
   | x::r,_ =>
    obtain⟨a,u,ys,e1,e2,rfl⟩:=rows1 h2
    have:=rows0 e2
    injection this with e5 e6
    subst e5 e6
    have e1:r=_:=e1
    subst e1
    exact .nr
  | 12,_,h=>obtain⟨x,rfl,rfl⟩:=sh1 rfl h;exact .n1 (by omega)
  | 13,_,h =>
   obtain⟨h1,xs,h2,rfl⟩:=zcK (n:=0) (k:=1) rfl h
   obtain⟨a,u,ys,e1,e2,rfl⟩:=rows1 h2
   have:=rows0 e2
   injection this with e5 e6
   subst e5 e6
   rw[List.drop_zero] at e1
   subst e1
   exact .r1
  | 14,_,h=>obtain⟨x,rfl,rfl⟩:=sh1 rfl h;exact .n1 (by omega)
  | 15,_,h=>obtain⟨rfl,rfl⟩:=sh0 rfl h;exact .n0 (by omega)
  | 16,_,h=>obtain⟨rfl,rfl⟩:=sh0 rfl h;exact .n0 (by omega)
  | 17,_,h=>obtain⟨x,rfl,rfl⟩:=sh1 rfl h;exact .n1 (by omega)
  | 18,_,h=>obtain⟨rfl,rfl⟩:=sh0 rfl h;exact .n0 (by omega)
inductive Line:List Int→List (List (List Int))→Prop
 | nil:Line [] []
 | cons {p:Int} {r t:List Int} {c:List (List Int)} {cs:List (List (List Int))} (h:Parsed p r c t) (h2:Line t cs):Line (p::r) (c::cs)
theorem zhV:∀(f:Nat) {l:List Int} {cs:List (List (List Int))},PyFlat.calls PyVbpoan.shape f l=some cs→Line l cs
 | f,[],cs,h=>by
  have:PyFlat.calls PyVbpoan.shape f []=some []:=by cases f<;>rfl
  rw[this] at h
  have:=Option.some.inj h
  subst this
  exact .nil
 | 0,_::_,cs,h=>by cases h
 | f+1,p::r,cs,h=>by
  unfold PyFlat.calls at h
  cases e:PyFlat.call PyVbpoan.shape (p::r) with
  | none=>rw[e] at h;cases h
  | some x =>
   obtain⟨c,t⟩:=x
   rw[e] at h
   simp only at h
   cases e2:PyFlat.calls PyVbpoan.shape f t with
   | none=>rw[e2] at h;cases h
   | some y =>
    rw[e2] at h
    have:=Option.some.inj h
    subst this
    exact .cons (zm2 e) (zhV f e2)
theorem zns {l:List Int} (h:PyVbpoan.answers_asked l=true):∃cs,Line l cs∧cs.length≤400∧(∀c∈cs,VbpoanNeutral.asked1 c=true)∧PyVbpoan.answers l=PyFlat.told (PyFlat.played VbpoanNeutral.step VbpoanNeutral.start cs):=by
 unfold PyVbpoan.answers_asked at h
 unfold PyVbpoan.answers
 cases e:PyVbpoan.calls l with
 | none=>rw[e] at h;cases h
 | some cs =>
  rw[e] at h
  simp only at h
  rw[Bool.and_eq_true] at h
  unfold PyVbpoan.calls at e
  cases e2:PyFlat.calls PyVbpoan.shape l.length l with
  | none=>rw[e2] at e;cases e
  | some ds =>
   rw[e2] at e
   simp only at e
   rw[zo3] at e
   have:=Option.some.inj e
   subst this
   obtain⟨h1,h2⟩:=h
   unfold VbpoanNeutral.asked at h2
   rw[Bool.and_eq_true,Bool.and_eq_true] at h2
   exact⟨ds,zhV _ e2,of_decide_eq_true h1,λc hc=>List.all_eq_true.mp h2.1.1 c hc,rfl⟩
end Pd
end
section
namespace Pd
open Vbpoan
structure Good (n:Nat) (s:State):Prop where
 ctg:Ctg (codesOf s)
 cod:∀p∈s.points,p.code=0∨(100≤p.code∧p.code≤999)
 len:s.points.length≤40
 ids:(s.points.map (·.id)).Nodup
 idb:∀p∈s.points,1≤p.id∧p.id < s.next
 nxt:1≤s.next∧s.next≤1000001
 cap:1≤s.cap∧s.cap≤1000000
 load:∀p∈s.points,p.load≤1000000
 old:∀p∈s.points,p.olds.length≤n
 ret:s.retired.length≤40 * n
theorem Good.codes {n:Nat} {s:State} (G:Good n s):∀c∈codesOf s,c=0∨(100≤c∧c≤999):=by
 intro c hc
 obtain⟨p,hp,rfl⟩:=List.mem_map.mp hc
 exact G.cod p hp
theorem Good.mono {n m:Nat} {s:State} (G:Good n s) (h:n≤m):Good m s :=
 ⟨G.ctg,G.cod,G.len,G.ids,G.idb,G.nxt,G.cap,G.load,λp hp=>Nat.le_trans (G.old p hp) h,Nat.le_trans G.ret (by omega)⟩
theorem zj8 {g c:Nat} (h:1≤c∧c≤1000000) (n:Nat):Good n { start with grace:=g,cap:=c } :=
 ⟨trivial,(λp hp=>nomatch hp),by show 0≤40;omega,List.nodup_nil,(λp hp=>nomatch hp),by show 1≤1∧1≤1000001;omega,h,(λp hp=>nomatch hp),(λp hp=>nomatch hp),Nat.zero_le _⟩
theorem zbg (s:State):(codesOf s).length=s.points.length:=by unfold codesOf;rw[List.length_map]
def putAt (s:State) (k l:Nat):State:={ s with points:=s.points.take k++(⟨s.next,l,neighbour s k,s.day,[]⟩::s.points.drop k),next:=s.next+1 }
theorem zqI {l:List Nat} (h:Ctg l) (k:Nat) (hk:k≤l.length):Ctg (l.take k++((if k=0 then l.headD 0 else l.getD (k - 1) 0)::l.drop k)):=by
 cases k with
 | zero =>
  rw[if_pos rfl,List.take_zero,List.drop_zero]
  cases l with
  | nil=>exact⟨trivial,λz=>nomatch z⟩
  | cons c l=>exact zm0 c l [] h
 | succ k =>
  have hl:k < l.length:=hk
  rw[if_neg (Nat.succ_ne_zero _),Nat.add_sub_cancel,zau (List.getElem?_eq_getElem hl)]
  have e:l.getD k 0=l[k]:=by rw[List.getD_eq_getElem?_getD,List.getElem?_eq_getElem hl];rfl
  rw[e,List.append_assoc]
  refine zm0 l[k] (l.drop (k+1)) (l.take k) ?_
  have:l.take k++l[k]::l.drop (k+1)=l:=by
   rw[List.getElem_cons_drop,List.take_append_drop]
  rw[this];exact h
theorem zkK {n:Nat} {s:State} (G:Good n s) (k:Nat):neighbour s k=0∨(100≤neighbour s k∧neighbour s k≤999):=by
 have h:∀j,(codesOf s).getD j 0=0∨(100≤(codesOf s).getD j 0∧(codesOf s).getD j 0≤999):=λj=>by
  rw[List.getD_eq_getElem?_getD]
  cases e:(codesOf s)[j]? with
  | none=>exact .inl rfl
  | some c=>exact G.codes c (List.mem_of_getElem? e)
 unfold neighbour
 split
 ·have:=h 0
  cases e:codesOf s with
  | nil=>exact .inl rfl
  | cons a b=>rw[e] at this;exact this
 ·exact h _
theorem zpG {n:Nat} {s:State} (G:Good n s) {k l:Nat} (hk:k≤s.points.length) (hl:l≤1000000) (h40:s.points.length < 40) (hn:s.next≤1000000):Good n (putAt s k l):=by
 have mem:∀p,p∈(putAt s k l).points→p∈s.points∨p=⟨s.next,l,neighbour s k,s.day,[]⟩:=λp hp=>by
  rcases List.mem_append.mp hp with q|q
  ·exact .inl (List.mem_of_mem_take q)
  ·rcases List.mem_cons.mp q with q|q
   ·exact .inr q
   ·exact .inl (List.mem_of_mem_drop q)
 refine⟨?_,λp hp=>?_,?_,?_,λp hp=>?_,⟨by show 1≤s.next+1;omega,by show s.next+1≤_;omega⟩,G.cap,λp hp=>?_,λp hp=>?_,G.ret⟩
 ·have e:codesOf (putAt s k l)=(codesOf s).take k++(neighbour s k::(codesOf s).drop k):=by
   unfold codesOf putAt
   simp only[List.map_append,List.map_cons,List.map_take,List.map_drop]
  rw[e]
  exact zqI G.ctg k (by rw[zbg];exact hk)
 ·rcases mem p hp with q|rfl
  ·exact G.cod p q
  ·exact zkK G k
 ·show (s.points.take k++(_::s.points.drop k)).length≤40
  rw[List.length_append,List.length_cons,List.length_take,List.length_drop]
  omega
 ·show ((s.points.take k++(_::s.points.drop k)).map _).Nodup
  have hp:((s.points.take k++((⟨s.next,l,neighbour s k,s.day,[]⟩:Point)::s.points.drop k)).map (·.id)).Perm (s.next::s.points.map (·.id)):=by
   have h1:(s.points.take k++((⟨s.next,l,neighbour s k,s.day,[]⟩:Point)::s.points.drop k)).Perm ((⟨s.next,l,neighbour s k,s.day,[]⟩:Point)::(s.points.take k++s.points.drop k)):=List.perm_middle
   rw[List.take_append_drop] at h1
   exact h1.map _
  refine hp.nodup_iff.mpr (List.nodup_cons.mpr ⟨λhm=>?_,G.ids⟩)
  obtain⟨p,hp,e⟩:=List.mem_map.mp hm
  have:=(G.idb p hp).2
  have e:p.id=s.next:=e
  omega
 ·show 1≤p.id∧p.id < s.next+1
  rcases mem p hp with q|rfl
  ·have:=G.idb p q
   omega
  ·exact⟨G.nxt.1,Nat.lt_succ_self _⟩
 ·rcases mem p hp with q|rfl
  ·exact G.load p q
  ·exact hl
 ·rcases mem p hp with q|rfl
  ·exact G.old p q
  ·exact Nat.zero_le _
def setLoad (s:State) (i l:Nat):State:={ s with points:=s.points.map λy=>if y.id=i then { y with load:=l } else y }
theorem zmp {α β:Type} {f:α→α} {g:α→β} (h:∀x,g (f x)=g x) (l:List α):(l.map f).map g=l.map g:=by
 rw[List.map_map];apply List.map_congr_left;intro x _;exact h x
theorem zoo {n:Nat} {s:State} (G:Good n s) {i l:Nat} (hl:l≤1000000):Good n (setLoad s i l):=by
 have mem:∀p,p∈(setLoad s i l).points→∃q∈s.points,p.code=q.code∧p.id=q.id∧p.olds=q.olds∧(p.load=q.load∨p.load=l):=λp hp=>by
  obtain⟨q,hq,e⟩:=List.mem_map.mp hp
  subst e
  refine⟨q,hq,?_⟩
  by_cases e:q.id=i
  ·rw[if_pos e];exact⟨rfl,rfl,rfl,.inr rfl⟩
  ·rw[if_neg e];exact⟨rfl,rfl,rfl,.inl rfl⟩
 refine⟨?_,λp hp=>?_,?_,?_,λp hp=>?_,G.nxt,G.cap,λp hp=>?_,λp hp=>?_,G.ret⟩
 ·have e:codesOf (setLoad s i l)=codesOf s:=zmp (λx=>by split<;>rfl) _
  rw[e];exact G.ctg
 ·obtain⟨q,hq,e1,e2,e3,e4⟩:=mem p hp
  rw[e1];exact G.cod q hq
 ·show (List.map _ s.points).length≤40
  rw[List.length_map];exact G.len
 ·show ((List.map _ s.points).map _).Nodup
  rw[zmp (λx=>by split<;>rfl)];exact G.ids
 ·obtain⟨q,hq,e1,e2,e3,e4⟩:=mem p hp
  rw[e2];exact G.idb q hq
 ·obtain⟨q,hq,e1,e2,e3,e4⟩:=mem p hp
  have:=G.load q hq
  omega
 ·obtain⟨q,hq,e1,e2,e3,e4⟩:=mem p hp
  rw[e3];exact G.old q hq
def takeOut (s:State) (i:Nat):State:={ s with points:=s.points.filter λy=>y.id != i }
theorem zpH {n:Nat} {s:State} (G:Good n s) (i:Nat):Good n (takeOut s i):=by
 have mem:∀p,p∈(takeOut s i).points→p∈s.points:=λp hp=>(List.mem_filter.mp hp).1
 have sub:(takeOut s i).points.Sublist s.points:=List.filter_sublist
 exact⟨zlZ (sub.map _) G.ctg,λp hp=>G.cod p (mem p hp),Nat.le_trans sub.length_le G.len,(sub.map _).nodup G.ids,λp hp=>G.idb p (mem p hp),G.nxt,G.cap,λp hp=>G.load p (mem p hp),λp hp=>G.old p (mem p hp),G.ret⟩
theorem zlL {n:Nat} {s:State} (G:Good n s) {before:List Nat} (h:before.length≤40):Good (n+1) (retire s before):=by
 rw[zft]
 refine⟨G.ctg,G.cod,G.len,G.ids,G.idb,G.nxt,G.cap,G.load,λp hp=>Nat.le_succ_of_le (G.old p hp),?_⟩
 show (s.retired++_).length≤_
 rw[List.length_append,List.length_map]
 have:=zeT before (codesOf s)
 have:=G.ret
 omega
def recode (s:State) (cs:List Nat):State:={ s with points:=(s.points.zip cs).map λx=>coded s x.2 x.1 }
theorem zje (s:State) (c:Nat) (p:Point):(coded s c p).code=c:=by
 unfold coded
 split
 ·rename_i h;exact h
 ·rfl
theorem zem (s:State) (c:Nat) (p:Point):(coded s c p).id=p.id∧(coded s c p).load=p.load∧(coded s c p).olds.length≤p.olds.length+1:=by
 unfold coded
 split
 ·exact⟨rfl,rfl,Nat.le_succ _⟩
 ·refine⟨rfl,rfl,?_⟩
  show (if p.code=0 then p.olds else p.olds++[_]).length≤_
  split
  ·exact Nat.le_succ _
  ·rw[List.length_append];exact Nat.le_refl _
theorem zhT {α β γ:Type} (f:α→γ):∀(l:List α) (m:List β),m.length=l.length→(l.zip m).map (λx=>f x.1)=l.map f
 | [],_,_=>rfl
 | a::l,[],h=>by simp at h
 | a::l,b::m,h=>by
  rw[List.zip_cons_cons,List.map_cons,List.map_cons,zhT f l m (by simpa using h)]
theorem zhS {α β:Type}:∀(l:List α) (m:List β),m.length=l.length→(l.zip m).map (λx=>x.2)=m
 | [],[],_=>rfl
 | [],_::_,h=>by simp at h
 | a::l,[],h=>by simp at h
 | a::l,b::m,h=>by
  rw[List.zip_cons_cons,List.map_cons,zhS l m (by simpa using h)]
theorem zko {s:State} {cs:List Nat} (h:cs.length=s.points.length):codesOf (recode s cs)=cs:=by
 unfold codesOf recode
 rw[List.map_map]
 refine Eq.trans ?_ (zhS s.points cs h)
 apply List.map_congr_left
 intro x _
 exact zje s x.2 x.1
theorem zlM {n:Nat} {s:State} (G:Good n s) {w:Worth} {l:List (Nat×Nat)} (P:PlanIs s w l):Good (n+1) (recode s (spread l)):=by
 have mem:∀p,p∈(recode s (spread l)).points→∃q∈s.points,∃c∈spread l,p=coded s c q:=λp hp=>by
  obtain⟨x,hx,e⟩:=List.mem_map.mp hp
  obtain⟨a,b⟩:=x
  exact⟨a,(List.of_mem_zip hx).1,b,(List.of_mem_zip hx).2,e.symm⟩
 refine⟨?_,λp hp=>?_,?_,?_,λp hp=>?_,G.nxt,G.cap,λp hp=>?_,λp hp=>?_,Nat.le_trans G.ret (by omega)⟩
 ·rw[zko P.len]
  exact zjd P.nd
 ·obtain⟨q,hq,c,hc,rfl⟩:=mem p hp
  rw[zje]
  obtain⟨m,hm⟩:=zek hc
  rcases P.from_ c (List.mem_map.mpr ⟨_,hm,rfl⟩) with z|z
  ·exact G.codes c z
  ·exact .inr z
 ·show (List.map _ (s.points.zip (spread l))).length≤40
  rw[List.length_map,List.length_zip,P.len,Nat.min_self];exact G.len
 ·show ((List.map _ (s.points.zip (spread l))).map _).Nodup
  rw[List.map_map]
  have e:(s.points.zip (spread l)).map ((λx=>x.id) ∘ λx=>coded s x.2 x.1)=s.points.map (·.id):=by
   refine Eq.trans ?_ (zhT (λp:Point=>p.id) s.points (spread l) P.len)
   apply List.map_congr_left
   intro x _
   exact(zem s x.2 x.1).1
  rw[e];exact G.ids
 ·obtain⟨q,hq,c,hc,rfl⟩:=mem p hp
  rw[(zem s c q).1];exact G.idb q hq
 ·obtain⟨q,hq,c,hc,rfl⟩:=mem p hp
  rw[(zem s c q).2.1];exact G.load q hq
 ·obtain⟨q,hq,c,hc,rfl⟩:=mem p hp
  have:=(zem s c q).2.2
  have:=G.old q hq
  omega
theorem znJ {n:Nat} {s:State} (G:Good n s) {w:Worth} {l:List (Nat×Nat)} (hw:bestWorth s=some w) (hp:plan s=some l):PlanIs s w l:=by
 by_cases hc:∀x∈loadsOf s,x≤s.cap
 ·obtain⟨w',h1,⟨h2,h3,h4⟩|⟨h2,h3⟩⟩:=zkq G.ctg hc
  ·rw[hw] at h1;cases h1
   rw[hp] at h3;cases h3
   exact h4
  ·rw[hp] at h3;cases h3
 ·have:∃x∈loadsOf s,s.cap < x:=by
   by_cases q:∃x∈loadsOf s,s.cap < x
   ·exact q
   ·exact(hc λx hx=>Nat.le_of_not_lt λz=>q ⟨x,hx,z⟩).elim
  obtain⟨x,hx,z⟩:=this
  rw[zkr hx z] at hw;cases hw
theorem zeP {s:State} {w:Worth} {l:List (Nat×Nat)} (P:PlanIs s w l):l.length≤s.points.length:=by
 rw[←P.len,zfe]
 have:∀l:List (Nat×Nat),(∀x∈l,0 < x.1)→l.length≤nsum (l.map (·.1)):=by
  intro l
  induction l with
  | nil=>intro _;exact Nat.le_refl _
  | cons x l ih =>
   intro h
   have h1:=h x List.mem_cons_self
   have h2:=ih λy hy=>h y (List.mem_cons_of_mem _ hy)
   show l.length+1≤x.1+nsum (l.map (·.1))
   omega
 exact this l λx hx=>(P.pos x hx).2
theorem zi1 {n:Nat} {s:State} {p:Int} {f:Point→State×Ans} (G:Good n s) (h:∀x,pointOf s p=some x→Good (n+1) (f x).1):Good (n+1) (onPoint s p f).1:=by
 unfold onPoint
 split
 ·exact G.mono (Nat.le_succ _)
 ·split
  ·exact G.mono (Nat.le_succ _)
  ·rename_i x hx;exact h x hx
theorem zaD {n lo hi:Int}:inside n lo hi=true↔lo≤n∧n≤hi:=by
 unfold inside;rw[Bool.and_eq_true,decide_eq_true_eq,decide_eq_true_eq]
theorem ze6 {n lo hi:Int}:inside n lo hi=false↔n < lo∨hi < n:=by
 rw[Bool.eq_false_iff,Ne,zaD];omega
theorem zj2 {n lo hi:Int} (h:¬ inside n lo hi=false):lo≤n∧n≤hi:=by
 rw[ze6] at h;omega
theorem zon {n:Nat} {s:State} (G:Good n s) (c:Call):Good (n+1) (step s c).1:=by
 have G1:=G.mono (Nat.le_succ n)
 cases c with
 | begin g c =>
  show Good _ (if _ then _ else _:State×Ans).1
  split
  ·exact G1
  ·rename_i h
   have h2:=zj2 λz=>h (.inr z)
   exact zj8 (by omega) _
 | point k l =>
  show Good _ (if _ then _ else _:State×Ans).1
  split
  ·exact G1
  ·rename_i h
   split
   ·exact G1
   ·rename_i h'
    have h1:=zj2 λz=>h (.inl z)
    have h2:=zj2 λz=>h (.inr z)
    unfold POINTS at h'
    exact zpG (k:=k.toNat) (l:=l.toNat) G1 (by omega) (by omega) (by omega) (by omega)
 | load p l =>
  show Good _ (if _ then _ else _:State×Ans).1
  split
  ·exact G1
  ·rename_i h
   have h2:=zj2 h
   exact zi1 G λx _=>zoo (i:=x.id) (l:=l.toNat) G1 (by omega)
 | remove p =>
  exact zi1 G λx _=>zlL (zpH G x.id) (by rw[zbg];exact G.len)
 | cap c =>
  show Good _ (if _ then _ else _:State×Ans).1
  split
  ·exact G1
  ·rename_i h
   have h2:=zj2 h
   exact⟨G1.ctg,G1.cod,G1.len,G1.ids,G1.idb,G1.nxt,(by show 1≤c.toNat∧c.toNat≤1000000;omega),G1.load,G1.old,G1.ret⟩
 | day k =>
  show Good _ (if _ then _ else _:State×Ans).1
  split
  ·exact G1
  ·split
   ·exact G1
   ·exact⟨G1.ctg,G1.cod,G1.len,G1.ids,G1.idb,G1.nxt,G1.cap,G1.load,G1.old,G1.ret⟩
 | plan =>
  show Good _ (match bestWorth s with|none=>_|some w=>_:State×Ans).1
  split
  ·exact G1
  ·split<;>exact G1
 | adopt =>
  show Good _ (match bestWorth s with|none=>_|some w=>_:State×Ans).1
  split
  ·exact G1
  ·rename_i w hw
   split
   ·exact G1
   ·rename_i l hl
    have P:=znJ G hw hl
    have R:=zlM G P
    show Good _ (retire (recode s (spread l)) (codesOf s))
    rw[zft]
    refine⟨R.ctg,R.cod,R.len,R.ids,R.idb,R.nxt,R.cap,R.load,R.old,?_⟩
    show (s.retired++_).length≤_
    rw[List.length_append,List.length_map]
    have h1:=zeT (codesOf s) (codesOf (recode s (spread l)))
    rw[zbg] at h1
    have h2:=G.ret
    have h3:=G.len
    omega
 | judge a b =>
  show Good _ (if _ then _ else _:State×Ans).1
  split
  ·exact G1
  ·show Good _ (if _ then _ else _:State×Ans).1
   split<;>exact G1
 | code p=>exact zi1 G λx _=>G1
 | district c =>
  show Good _ (if _ then _ else _:State×Ans).1
  split<;>exact G1
 | read p b =>
  refine zi1 G λx _=>?_
  split<;>exact G1
 | text c =>
  show Good _ (if _ then _ else _:State×Ans).1
  split<;>exact G1
 | check b =>
  show Good _ (match readCode b with|none=>_|some n=>_:State×Ans).1
  split<;>exact G1
 | history p=>exact zi1 G λx _=>G1
 | retired=>exact G1
 | row=>exact G1
 | free k =>
  show Good _ (if _ then _ else _:State×Ans).1
  split<;>exact G1
 | counts=>exact G1
end Pd
end
section
namespace Pd
open Vbpoan
open VbpoanNeutral (flat)
theorem zmw (a:Ans):(flat a).length=1+nsum (a.rows.map λr=>r.length+1):=by
 unfold flat
 rw[List.length_cons,List.length_flatMap,Nat.add_comm]
 congr 1
theorem ints_length (l:List Nat):(Vbpoan.ints l).length=l.length:=by unfold Vbpoan.ints;rw[List.length_map]
theorem zb7 {α:Type} (l:List α) (f:α→List Int) (k:Nat) (h:∀x,(f x).length=k):(l.flatMap f).length=k * l.length:=by
 induction l with
 | nil=>simp
 | cons x l ih=>rw[List.flatMap_cons,List.length_append,h,ih,List.length_cons,Nat.mul_succ,Nat.add_comm]
def small (a:Ans):Prop:=(flat a).length≤33000
theorem small0 (s:State) (n:Nat):small (no s n).2:=by show (flat ⟨_,[]⟩).length≤_;rw[zmw];simp[nsum]
theorem zaw (s:State) (n:Nat) (rows:List (List Int)) (h:nsum (rows.map λr=>r.length+1)≤32999):small (yes s n rows).2:=by
 show (flat ⟨_,rows⟩).length≤_;rw[zmw];show 1+nsum (rows.map λr=>r.length+1)≤_;omega
theorem zfk {s:State} {p:Int} {f:Point→State×Ans} (h:∀x∈s.points,small (f x).2):small (onPoint s p f).2:=by
 unfold onPoint
 split
 ·exact small0 _ _
 ·split
  ·exact small0 _ _
  ·rename_i x hx
   exact h x (List.mem_of_find?_eq_some hx)
theorem zqN {n:Nat} {s:State} (G:Good n s) (hn:n≤400) (c:Call):small (step s c).2:=by
 have hl:=G.len
 cases c with
 | begin g c =>
  show small (if _ then _ else _:State×Ans).2
  split
  ·exact small0 _ _
  ·exact zaw _ _ _ (by simp[nsum])
 | point k l =>
  show small (if _ then _ else _:State×Ans).2
  split
  ·exact small0 _ _
  ·split
   ·exact small0 _ _
   ·exact zaw _ _ _ (by simp[nsum])
 | load p l =>
  show small (if _ then _ else _:State×Ans).2
  split
  ·exact small0 _ _
  ·exact zfk λx _=>zaw _ _ _ (by simp[nsum])
 | remove p=>exact zfk λx _=>zaw _ _ _ (by simp[nsum])
 | cap c =>
  show small (if _ then _ else _:State×Ans).2
  split
  ·exact small0 _ _
  ·exact zaw _ _ _ (by simp[nsum])
 | day k =>
  show small (if _ then _ else _:State×Ans).2
  split
  ·exact small0 _ _
  ·split
   ·exact small0 _ _
   ·exact zaw _ _ _ (by simp[nsum])
 | plan =>
  show small (match bestWorth s with|none=>_|some w=>_:State×Ans).2
  split
  ·exact small0 _ _
  ·rename_i w hw
   split
   ·exact small0 _ _
   ·rename_i l hl'
    have:=zeP (znJ G hw hl')
    refine zaw _ _ _ ?_
    simp only[List.map_cons,List.map_nil,zc1,ints_length]
    rw[zb7 l _ 2 λx=>rfl]
    show _+(_+0)≤_
    simp only[List.length_cons,List.length_nil]
    omega
 | adopt =>
  show small (match bestWorth s with|none=>_|some w=>_:State×Ans).2
  split
  ·exact small0 _ _
  ·split
   ·exact small0 _ _
   ·exact zaw _ _ _ (by simp[nsum,Vbpoan.ints])
 | judge a b =>
  show small (if _ then _ else _:State×Ans).2
  split
  ·exact small0 _ _
  ·show small (if _ then _ else _:State×Ans).2
   split
   ·exact zaw _ _ _ (by simp[nsum])
   ·exact zaw _ _ _ (by simp[nsum,Vbpoan.ints])
 | code p=>exact zfk λx _=>zaw _ _ _ (by simp[nsum,Vbpoan.ints])
 | district c =>
  show small (if _ then _ else _:State×Ans).2
  split
  ·exact small0 _ _
  ·refine zaw _ _ _ ?_
   simp only[List.map_cons,List.map_nil,zc1,ints_length,List.length_map]
   have:=List.length_filter_le (λx:Point=>(x.code:Int) == c) s.points
   show _+(_+0)≤_
   simp only[List.length_cons,List.length_nil]
   omega
 | read p b =>
  refine zfk λx _=>?_
  split
  ·exact small0 _ _
  ·exact zaw _ _ _ (by simp[nsum,Vbpoan.ints])
 | text c =>
  show small (if _ then _ else _:State×Ans).2
  split
  ·exact small0 _ _
  ·exact zaw _ _ _ (by simp[nsum,bytes,textOf])
 | check b =>
  show small (match readCode b with|none=>_|some n=>_:State×Ans).2
  split<;>exact zaw _ _ _ (by simp[nsum])
 | history p =>
  refine zfk λx hx=>zaw _ _ _ ?_
  have h:=G.old x hx
  rw[List.map_map]
  have:∀l:List Old,nsum (l.map ((λr=>r.length+1) ∘ λo=>Vbpoan.ints [o.code,o.from_,o.until_]))=4 * l.length:=by
   intro l
   induction l with
   | nil=>rfl
   | cons o l ih=>rw[List.map_cons,zc1,ih,List.length_cons,Nat.mul_succ,Nat.add_comm];rfl
  rw[this]
  omega
 | retired =>
  refine zaw _ _ _ ?_
  have h:=G.ret
  simp only[List.map_cons,List.map_nil,zc1]
  rw[zb7 s.retired _ 2 λx=>rfl]
  show _+0≤_
  omega
 | row =>
  refine zaw _ _ _ ?_
  simp only[List.map_cons,List.map_nil,zc1]
  rw[zb7 s.points _ 3 λx=>rfl]
  show _+0≤_
  omega
 | free k =>
  show small (if _ then _ else _:State×Ans).2
  split
  ·exact small0 _ _
  ·rename_i h
   have h2:=zj2 h
   refine zaw _ _ _ ?_
   simp only[List.map_cons,List.map_nil,zc1,ints_length,List.length_take]
   show _+0≤_
   omega
 | counts=>exact zaw _ _ _ (by simp[nsum,Vbpoan.ints])
end Pd
end
section
namespace Pd
open Vbpoan
theorem zmA {l:List Nat} (h:Ctg l):∀k,Ctg (l.drop k)
 | 0=>h
 | k+1=>by
  cases l with
  | nil=>exact h
  | cons a l=>exact zmA h.1 k
theorem zmz {c:Nat}:∀{l:List Nat} {q:Nat},Ctg (c::l)→l[q]?=some c→∀p,p≤q→l[p]?=some c
 | [],q,_,h=>by simp at h
 | a::l,q,hC,h=>by
  have ha:a=c:=by
   have:=hC.2 (List.mem_of_getElem? h)
   exact Option.some.inj this
  subst ha
  intro p hp
  cases p with
  | zero=>rfl
  | succ p =>
   cases q with
   | zero=>omega
   | succ q=>exact zmz (q:=q) hC.1 (by simpa using h) p (by omega)
theorem zqJ {l:List Nat} (h:Ctg l) {p q c:Nat} (hp:l[p]?=some c) (hq:l[q]?=some c) {m:Nat} (h1:p≤m) (h2:m≤q):l[m]?=some c:=by
 by_cases e:m=p
 ·rw[e];exact hp
 ·have hd:=zmA h p
  have hl:p < l.length:=(List.getElem?_eq_some_iff.mp hp).1
  have hc:l.drop p=c::l.drop (p+1):=by
   rw[List.drop_eq_getElem_cons hl]
   congr 1
   exact(List.getElem?_eq_some_iff.mp hp).2
  rw[hc] at hd
  have:=zmz (q:=q - (p+1)) hd (by rw[List.getElem?_drop];rw[show p+1+(q - (p+1))=q by omega];exact hq) (m - (p+1)) (by omega)
  rw[List.getElem?_drop,show p+1+(m - (p+1))=m by omega] at this
  exact this
theorem zmE {c:Nat}:∀{l:List (Nat×Nat)} {x:Nat×Nat},x∈bump c l→x.1=c∨∃m,(x.1,m)∈l
 | [],x,h=>by
  have h:x∈[(c,1)]:=h
  rw[List.mem_singleton.mp h];exact .inl rfl
 | (a,m)::r,x,h=>by
  have h:x∈(if a=c then (a,m+1)::r else (a,m)::bump c r):=h
  by_cases e:a=c
  ·rw[if_pos e] at h
   rcases List.mem_cons.mp h with z|z
   ·rw[z];exact .inl e
   ·exact .inr ⟨x.2,List.mem_cons_of_mem _ z⟩
  ·rw[if_neg e] at h
   rcases List.mem_cons.mp h with z|z
   ·rw[z];exact .inr ⟨m,List.mem_cons_self⟩
   ·rcases zmE z with q|⟨m',q⟩
    ·exact .inl q
    ·exact .inr ⟨m',List.mem_cons_of_mem _ q⟩
theorem zhY {codes:List Nat} {i:Nat} {t:Bool}:∀{n:Nat} {x:Nat×Nat},x∈keptD codes i t n→x.1≠0∧∃q,i≤q∧q < i+n∧codes.getD q 0=x.1
 | 0,x,h=>by cases h
 | n+1,x,h=>by
  unfold keptD at h
  split at h
  ·rename_i hc
   rcases zmE h with z|⟨m,z⟩
   ·exact⟨by rw[z];exact hc.1,i+n,by omega,by omega,z.symm⟩
   ·obtain⟨h1,q,h2,h3,h4⟩:=zhY z
    exact⟨h1,q,h2,by omega,h4⟩
  ·obtain⟨h1,q,h2,h3,h4⟩:=zhY h
   exact⟨h1,q,h2,by omega,h4⟩
structure RowOk (loads codes:List Nat) (i:Nat) (x:Nat×Nat×Nat×Nat):Prop where
 pos:1≤x.1
 le:i+x.1≤loads.length
 code:x.2.2.1=0∨∃q,i≤q∧q < i+x.1∧codes.getD q 0=x.2.2.1
theorem zkS {cap:Nat} {loads codes:List Nat} {i:Nat} {t:Bool} {x:Nat×Nat×Nat×Nat} (h:x∈firstD cap loads codes i t):RowOk loads codes i x:=by
 unfold firstD at h
 obtain⟨n,hn,hx⟩:=List.mem_flatMap.mp h
 have hn:=List.mem_range.mp ((List.takeWhile_sublist _).subset hn)
 unfold blk at hx
 rcases List.mem_append.mp hx with z|z
 ·obtain⟨y,hy,rfl⟩:=List.mem_map.mp z
  have hm:=(List.mem_zipIdx hy).2.2
  obtain⟨h1,q,h2,h3,h4⟩:=zhY (codes:=codes) (i:=i) (t:=t) (n:=n+1) (x:=y.1) (by rw[hm];exact List.getElem_mem _)
  exact⟨by show 1≤n+1;omega,by show i+(n+1)≤_;omega,.inr ⟨q,h2,h3,h4⟩⟩
 ·rw[List.mem_singleton.mp z]
  exact⟨by show 1≤n+1;omega,by show i+(n+1)≤_;omega,.inl rfl⟩
theorem zkT {cap:Nat} {loads codes:List Nat} {i:Nat} {t:Bool} (hi:i < loads.length) (hc:∀l∈loads,l≤cap):firstD cap loads codes i t≠[]:=by
 unfold firstD
 obtain⟨m,hm⟩:∃m,loads.length - i=m+1:=⟨loads.length - i - 1,by omega⟩
 have hf:fits cap loads i (0+1)=true:=by
  unfold fits
  have:(loads.drop i).take (0+1)=[loads[i]]:=by
   rw[List.drop_eq_getElem_cons hi];rfl
  rw[this]
  have:=hc loads[i] (List.getElem_mem hi)
  exact decide_eq_true (by show loads[i]+0≤cap;omega)
 rw[hm,List.range_succ_eq_map,List.takeWhile_cons,hf]
 intro z
 simp[blk] at z
theorem zoV:∀{l:List Cand},l≠[]→best1 l∈l
 | [],h=>(h rfl).elim
 | x::l,_=>by
  have:∀(l:List Cand) (x:Cand),l.foldl (λb y=>if candLt y b then y else b) x∈x::l:=by
   intro l
   induction l with
   | nil=>intro x;exact List.mem_cons_self
   | cons y l ih =>
    intro x
    rw[List.foldl_cons]
    by_cases h:candLt y x
    ·rw[if_pos h];exact List.mem_cons_of_mem _ (ih y)
    ·rw[if_neg h]
     rcases List.mem_cons.mp (ih x) with z|z
     ·rw[z];exact List.mem_cons_self
     ·exact List.mem_cons_of_mem _ (List.mem_cons_of_mem _ z)
  exact this l x
structure Need (codes:List Nat) (e:Nat) (b:Bool):Prop where
 le:e≤codes.length
 yes:b=true→0 < e∧e < codes.length∧codes.getD (e - 1) 0=codes.getD e 0
theorem zhJ {codes:List Nat} (hC:Ctg codes) {i n c:Nat} {t:Bool} (h1:1≤n) (h2:i+n≤codes.length) (hc:c=0∨∃q,i≤q∧q < i+n∧codes.getD q 0=c):Need codes (i+n) (behind codes i t (i+n) c):=by
 refine⟨h2,λhb=>?_⟩
 unfold behind at hb
 split at hb
 ·cases hb
 ·rename_i hno
  have hlt:i+n < codes.length:=by
   have:¬ i+n=codes.length:=λz=>hno (.inl z)
   omega
  have h0:codes.getD (i+n) 0≠0:=λz=>hno (.inr z)
  have key:∀q,q < i+n→codes.getD q 0=codes.getD (i+n) 0→codes.getD (i+n - 1) 0=codes.getD (i+n) 0:=λq hq e=>by
   refine zop (zqJ hC (p:=q) (q:=i+n) ?_ ?_ (by omega) (by omega))
   ·rw[←e];exact zja (by omega)
   ·exact zja hlt
  refine⟨by omega,hlt,?_⟩
  rw[Bool.or_eq_true,decide_eq_true_eq,Bool.and_eq_true,decide_eq_true_eq] at hb
  rcases hb with z|⟨_,z⟩
  ·rcases hc with q|⟨q,hq1,hq2,hq3⟩
   ·exact(h0 (z.trans q)).elim
   ·exact key q hq2 (hq3.trans z.symm)
  ·exact key i (by omega) z.symm
theorem zjk (cap:Nat) (loads codes:List Nat) (f i:Nat):tab cap loads codes (f+1) i=(best1 ((firstD cap loads codes i false).map (candOf codes (tab cap loads codes f (i+1)) i false)),best1 ((firstD cap loads codes i true).map (candOf codes (tab cap loads codes f (i+1)) i true)))::tab cap loads codes f (i+1):=rfl
theorem zkt {cap:Nat} {loads codes:List Nat} {f i:Nat} (hi:i < loads.length) (hc:∀l∈loads,l≤cap) (t:Bool):RowOk loads codes i ((pick ((tab cap loads codes (f+1) i).headD (noC,noC)) t).size,0,(pick ((tab cap loads codes (f+1) i).headD (noC,noC)) t).code,0):=by
 have gen:∀t,RowOk loads codes i ((best1 ((firstD cap loads codes i t).map (candOf codes (tab cap loads codes f (i+1)) i t))).size,0,(best1 ((firstD cap loads codes i t).map (candOf codes (tab cap loads codes f (i+1)) i t))).code,0):=λt=>by
  have hne:(firstD cap loads codes i t).map (candOf codes (tab cap loads codes f (i+1)) i t)≠[]:=λz=>zkT (t:=t) (codes:=codes) hi hc (List.map_eq_nil_iff.mp z)
  obtain⟨x,hx,e⟩:=List.mem_map.mp (zoV hne)
  have ok:=zkS hx
  rw[←e]
  exact⟨ok.pos,ok.le,ok.code⟩
 rw[zjk]
 cases t
 ·exact gen false
 ·exact gen true
end Pd
end
section
namespace Pd
open PySem PySem.Spec PyProof.Rows L2
open Vbpoan (State Point Old Retired codesOf loadsOf)
def top (i:Nat):Stmt:=PySem.Challenge.pw_postdistricts_s01_answers.main.body.getD i (.Pass ⟨0,0,0,0⟩)
section
variable (P:Program) (w:World) (K:PySem.W.Frag) (mg:Str→Option Value) (base:Heap)
structure DefIn (x:Str) (st:Stmt) (ps:List Str):Prop where
 ex:∃f fd,Fun K x x st f fd∧mg x=some (.ref f)∧Binds K fd ps []
structure Callable (k:Nat) (x:Str) (ps:List Str) (sp:Sp):Prop where
 ex:∃f fd,mg x=some (.ref f)∧PySem.W.keepIn K (.ref f)=true∧Binds K fd ps []∧FnOk P w K mg base (CXP P w) k f fd ps sp
end
section
variable {P:Program} {w:World} {K:PySem.W.Frag} {mg:Str→Option Value} {base:Heap}
theorem DefIn.ok {x:Str} {st:Stmt} {ps N:List Str} {k:Nat} {sp:Sp} (D:DefIn K mg x st ps) (S:FnScope N ps (defScope st)) (len:∀vs H Q E,sp vs H Q E→vs.length=ps.length)
  (hbody:∀(f:Addr) (cdv:Value) (A:Around) (outer:List Env) (s:Shared) (H:Hp) (vs:List V) (Q:VK) (E:XK),Room k (A.deeper (envOfC x (defScope st) s.heap.objs.size f cdv))→sp vs H Q E→
   ∃t,PSs (cxP P w K mg base N x (defScope st) f cdv A outer s H E) (defBody st) t∧t { nx:=λ_ H'=>Q .non H',rt:=Q } (start N vs) H):Callable P w K mg base (k+1) x ps sp:=by
 obtain⟨f,fd,F,hm,hb⟩:=D.ex
 obtain⟨oc,od,kV,doc,pm,an,cdv,ct,osl,rfl,lk,hcd⟩:=F.ex
 exact⟨f,_,hm,F.kp,hb,fn_of lk hcd S len λA outer s H vs Q E hr hsp=>hbody f cdv A outer s H vs Q E hr hsp⟩
structure MethIn (C:Addr) (m qual:Str) (st:Stmt) (ps:List Str):Prop where
 ex:∃f fd,Fun K m qual st f fd∧Meth K C m f∧Binds K fd ps []
end
section
variable (P:Program) (w:World) (K:PySem.W.Frag) (mg:Str→Option Value) (base:Heap)
structure CallableM (k:Nat) (C:Addr) (m:Str) (ps:List Str) (sp:Sp):Prop where
 ex:∃f fd,Meth K C m f∧Binds K fd ps []∧FnOk P w K mg base (CXP P w) k f fd ps sp
end
section
variable {P:Program} {w:World} {K:PySem.W.Frag} {mg:Str→Option Value} {base:Heap}
structure InitIn (C:Addr) (qual:Str) (st:Stmt) (ps:List Str):Prop where
 ex:∃f fd,Fun K "__init__" qual st f fd∧Mk K C f∧Binds K fd ps []
theorem MethIn.ok {C:Addr} {m qual:Str} {st:Stmt} {ps N:List Str} {k:Nat} {sp:Sp} (D:MethIn (K:=K) C m qual st ps) (S:FnScope N ps (defScope st)) (len:∀vs H Q E,sp vs H Q E→vs.length=ps.length)
  (hbody:∀(f:Addr) (cdv:Value) (A:Around) (outer:List Env) (s:Shared) (H:Hp) (vs:List V) (Q:VK) (E:XK),Room k (A.deeper (envOfC qual (defScope st) s.heap.objs.size f cdv))→sp vs H Q E→
   ∃t,PSs (cxP P w K mg base N qual (defScope st) f cdv A outer s H E) (defBody st) t∧t { nx:=λ_ H'=>Q .non H',rt:=Q } (start N vs) H):CallableM P w K mg base (k+1) C m ps sp:=by
 obtain⟨f,fd,F,hm,hb⟩:=D.ex
 obtain⟨oc,od,kV,doc,pm,an,cdv,ct,osl,rfl,lk,hcd⟩:=F.ex
 exact⟨f,_,hm,hb,fn_of lk hcd S len λA outer s H vs Q E hr hsp=>hbody f cdv A outer s H vs Q E hr hsp⟩
variable {X:Cx} {x m:Str} {ps:List Str} {sp:Sp} {E:XK} {e o:Expr} {es:List Expr} {t:TA} {ta:TE} {p pos apos:Pos} {k:Nat} {C:Addr}
theorem passN:Passes (CXP X.prog X.w) X E0:=by
 rintro pins σ H s e s' I ⟨ea,C,H',_,_,_,_,q⟩
 exact q.elim
theorem pe_fn (c:Callable X.prog X.w X.K X.mg X.base k x ps sp) (hr:Room k X.A) (hg:Gl X x) (hx:Passes (CXP X.prog X.w) X E) (ha:PA X (e::es) t) (hdb:(x == ("__debug__":Str))=false:=by decide)
  (he:starEach (e::es) X.env=(false,eval e X.env)::starEach es X.env:=by rfl) (hpl:(backTo pos (starEach es X.env)).any (·.1)=false:=by rfl):PE X (.Call (.Name x p) (e::es) [] pos) (tCall sp [] E t):=by
 obtain⟨f,fd,hm,hk,hb,F⟩:=c.ex
 exact zqo F hr hg hm hk hb .nil hx ha hdb he hpl
theorem pe_mt {pl:Sem Bool} (c:CallableM X.prog X.w X.K X.mg X.base k C m ps sp) (cl:Cls X.K C) (hr:Room k X.A) (hx:Passes (CXP X.prog X.w) X E) (ho:PE X o ta) (ha:PA X (e::es) t)
  (hst:starEach (e::es) X.env=(false,eval e X.env)::starEach es X.env:=by rfl) (hpl:(backTo pos (starEach es X.env)).any (·.1)=false:=by rfl)
  (ht:eval (.Call (.Attribute o m apos) (e::es) [] pos) X.env=(do
   let ov ←eval o X.env
   standAt apos.atName
   let (f,first) ←holding [ov] (getMethod ov m pl)
   callWith pos f first (backTo pos (starEach (e::es) X.env)) (backToKw pos (keywordEach [] X.env))):=by rfl):PE X (.Call (.Attribute o m apos) (e::es) [] pos) (tMeth C m sp [] E ta t):=by
 obtain⟨f,fd,hm,hb,F⟩:=c.ex
 exact zql ho cl hm F hr hb .nil hx ha hst hpl ht
theorem zbx {pl:Sem Bool} (c:CallableM X.prog X.w X.K X.mg X.base k C m ps sp) (cl:Cls X.K C) (hr:Room k X.A) (hx:Passes (CXP X.prog X.w) X E) (ho:PE X o ta)
  (ht:eval (.Call (.Attribute o m apos) [] [] pos) X.env=(do
   let ov ←eval o X.env
   standAt apos.atName
   let (f,first) ←holding [ov] (getMethod ov m pl)
   callWith pos f first (backTo pos (starEach [] X.env)) (backToKw pos (keywordEach [] X.env))):=by rfl):PE X (.Call (.Attribute o m apos) [] [] pos) (tMeth C m sp [] E ta tNil):=by
 obtain⟨f,fd,hm,hb,F⟩:=c.ex
 exact zpn ho cl hm F hr hb .nil hx ht
structure MakesIn (P:Program) (w:World) (K:PySem.W.Frag) (mg:Str→Option Value) (base:Heap) (k:Nat) (C:Addr) (ps:List Str) (sp:Sp):Prop where
 ex:∃f fd,Mk K C f∧Binds K fd ps []∧FnOk P w K mg base (CXP P w) k f fd ps sp
theorem pe_mk (c:MakesIn X.prog X.w X.K X.mg X.base k C ps sp) (hr:Room (k+1) X.A) (hg:Gl X x) (hm:X.mg x=some (.ref C)) (hx:Passes (CXP X.prog X.w) X E) (ha:PA X (e::es) t) (hdb:(x == ("__debug__":Str))=false:=by decide)
  (he:starEach (e::es) X.env=(false,eval e X.env)::starEach es X.env:=by rfl) (hpl:(backTo pos (starEach es X.env)).any (·.1)=false:=by rfl):PE X (.Call (.Name x p) (e::es) [] pos) (tMake C sp [] E t):=by
 obtain⟨f,fd,hM,hb,F⟩:=c.ex
 exact zqm hM F hr hg hm hb .nil hx ha hdb he hpl
theorem InitIn.ok {P:Program} {w:World} {K:PySem.W.Frag} {mg:Str→Option Value} {base:Heap} {C:Addr} {qual:Str} {st:Stmt} {ps N:List Str} {k:Nat} {sp:Sp} (D:InitIn (K:=K) C qual st ps) (S:FnScope N ps (defScope st)) (len:∀vs H Q E,sp vs H Q E→vs.length=ps.length)
  (hbody:∀(f:Addr) (cdv:Value) (A:Around) (outer:List Env) (s:Shared) (H:Hp) (vs:List V) (Q:VK) (E:XK),Room k (A.deeper (envOfC qual (defScope st) s.heap.objs.size f cdv))→sp vs H Q E→
   ∃t,PSs (cxP P w K mg base N qual (defScope st) f cdv A outer s H E) (defBody st) t∧t { nx:=λ_ H'=>Q .non H',rt:=Q } (start N vs) H):MakesIn P w K mg base (k+1) C ps sp:=by
 obtain⟨f,fd,F,hm,hb⟩:=D.ex
 obtain⟨oc,od,kV,doc,pm,an,cdv,ct,osl,rfl,lk,hcd⟩:=F.ex
 exact⟨f,_,hm,hb,fn_of lk hcd S len λA outer s H vs Q E hr hsp=>hbody f cdv A outer s H vs Q E hr hsp⟩
theorem zaq {i:Int} (hg:Gl X x) (hm:∃u,X.mg x=some (.int i u)) (hd:(x == ("__debug__":Str))=false:=by decide):PE X (.Name x pos) (tC (.int i)) :=
 let ⟨_,h⟩:=hm;znN hg h ⟨_,rfl⟩ hd
end
abbrev nat (n:Nat):V:=.int (n:Int)
abbrev natL (l:List Nat):List V:=l.map nat
abbrev intL (l:List Int):List V:=l.map V.int
structure PtF (fs:List (Str×V)) (p:Point) (h:Addr):Prop where
 number:fs.lookup ("number":Str)=some (nat p.id)
 load:fs.lookup ("load":Str)=some (nat p.load)
 code:fs.lookup ("code":Str)=some (nat p.code)
 since:fs.lookup ("since":Str)=some (nat p.since)
 had:fs.lookup ("had":Str)=some (.ref h)
 few:fs.length≤10
structure TownF (fs:List (Str×V)) (s:State) (pl rl:Addr):Prop where
 day:fs.lookup ("day":Str)=some (nat s.day)
 grace:fs.lookup ("grace":Str)=some (nat s.grace)
 cap:fs.lookup ("cap":Str)=some (nat s.cap)
 points:fs.lookup ("points":Str)=some (.ref pl)
 retired:fs.lookup ("retired":Str)=some (.ref rl)
 given:fs.lookup ("numbers_given":Str)=some (.int ((s.next:Int) - 1))
 few:fs.length≤10
 noR:fs.lookup ("renew":Str)=none
theorem zbJ (f:Str) (v:V):∀fs:List (Str×V),(fs.lookup f).isSome=true→(putF f v fs).length=fs.length
 | [],h=>by simp at h
 | (g,x)::r,h=>by
  show (if g=f then (g,v)::r else (g,x)::putF f v r).length=_
  by_cases e:g=f
  ·rw[if_pos e];rfl
  ·rw[if_neg e,List.length_cons,List.length_cons]
   have hb:(f == g)=false:=beq_eq_false_iff_ne.mpr (Ne.symm e)
   have h:(match f == g with|true=>some x|false=>r.lookup f).isSome=true:=h
   rw[hb] at h
   rw[zbJ f v r h]
theorem zal (f:Str) (v:V) (fs:List (Str×V)):(putF f v fs).lookup f=some v:=by rw[zcR,if_pos rfl]
theorem za3 {f g:Str} (v:V) {fs:List (Str×V)} {u:Option V} (h:¬ g=f) (hu:fs.lookup g=u):(putF f v fs).lookup g=u:=by rw[zcR,if_neg h];exact hu
section
variable (CP CT:Addr)
def PtAt (H:Hp) (a h:Addr) (p:Point):Prop:=∃dx fs,H a=some (.ins CP dx fs)∧PtF fs p h
def TwAt (H:Hp) (t pl rl:Addr) (s:State):Prop:=∃dx fs,H t=some (.ins CT dx fs)∧TownF fs s pl rl
def TupsAt (H:Hp) (ts:List Addr) (xss:List (List V)):Prop:=Paired (λt xs=>H t=some (.tup xs)) ts xss
def RowsAt (H:Hp) (l:Addr) (xss:List (List V)):Prop:=∃ts:List Addr,H l=some (.lst (ts.map V.ref))∧TupsAt H ts xss
def oldV (o:Old):List V:=[nat o.code,nat o.from_,nat o.until_]
def retV (r:Retired):List V:=[nat r.code,nat r.day]
def pairV (x:Nat×Nat):List V:=[nat x.1,nat x.2]
structure PtsAt (H:Hp) (pl:Addr) (as:List (Addr×Addr)) (pts:List Point):Prop where
 lst:H pl=some (.lst (as.map λx=>V.ref x.1))
 pt:Paired (λx p=>PtAt CP H x.1 x.2 p) as pts
structure Lay where
 pl:Addr
 rl:Addr
 ps:List (Addr×Addr)
structure TownAt (H:Hp) (t:Addr) (L:Lay) (s:State):Prop where
 tw:TwAt CT H t L.pl L.rl s
 pts:PtsAt CP H L.pl L.ps s.points
 had:Paired (λx p=>RowsAt H x.2 (p.olds.map oldV)) L.ps s.points
 ret:RowsAt H L.rl (s.retired.map retV)
 nd1:(L.ps.map (·.1)).Nodup
 nd2:(L.pl::L.rl::L.ps.map (·.2)).Nodup
end
def Lay.foot (L:Lay) (t:Addr):List Addr:=t::L.pl::L.rl::(L.ps.map (·.1)++L.ps.map (·.2))
def Kept (S:List Addr) (H H':Hp):Prop:=∀b o,H b=some o→b∉S→H' b=some o
theorem Same.kept {H H':Hp} (S:List Addr) (h:Same H H'):Kept S H H':=λb o e _=>h b o e
theorem Kept.trans {S T:List Addr} {H H1 H2:Hp} (a:Kept S H H1) (b:Kept T H1 H2):Kept (S++T) H H2:=λc o e h=>b c o (a c o e λz=>h (List.mem_append_left _ z)) λz=>h (List.mem_append_right _ z)
theorem Kept.mono {S T:List Addr} {H H1:Hp} (a:Kept S H H1) (h:∀b∈S,b∈T):Kept T H H1:=λc o e hn=>a c o e λz=>hn (h c z)
theorem Kept.comp {S:List Addr} {H H1 H2:Hp} (a:Kept S H H1) (b:Kept S H1 H2):Kept S H H2:=λc o e h=>b c o (a c o e h) h
theorem zcP {S:List Addr} {H H1 H2:Hp} (s:Same H H1) (k:Kept S H1 H2) (hS:∀b∈S,H b=none):Same H H2:=λb o e=>k b o (s b o e) λz=>by rw[hS b z] at e;cases e
theorem za8 {H:Hp} {a:Addr} {o:HO} (h:H a=none):Same H (upd H a o):=λb u e=>by rw[za6 (za7 e h)];exact e
theorem zaG {H:Hp} {a:Addr} {o:HO}:Kept [a] H (upd H a o):=λb u e hb=>by rw[za6 (by simpa using hb)];exact e
theorem Paired.get1 {α β:Type} {R:α→β→Prop}:∀{as:List α} {bs:List β} {i:Nat} {a:α},Paired R as bs→as[i]?=some a→∃b,bs[i]?=some b∧R a b
 | _,_,_,_,.nil,h=>by simp at h
 | _,_,0,_,.cons r _,h=>by
  have e:=Option.some.inj h
  subst e
  exact⟨_,rfl,r⟩
 | _,_,i+1,a,.cons _ t,h=>Paired.get1 (i:=i) t (by simpa using h)
theorem Paired.get2 {α β:Type} {R:α→β→Prop}:∀{as:List α} {bs:List β} {i:Nat} {b:β},Paired R as bs→bs[i]?=some b→∃a,as[i]?=some a∧R a b
 | _,_,_,_,.nil,h=>by simp at h
 | _,_,0,_,.cons r _,h=>by
  have e:=Option.some.inj h
  subst e
  exact⟨_,rfl,r⟩
 | _,_,i+1,b,.cons _ t,h=>Paired.get2 (i:=i) t (by simpa using h)
theorem Paired.snoc {α β:Type} {R:α→β→Prop} {a:α} {b:β} (h:R a b):∀{as:List α} {bs:List β},Paired R as bs→Paired R (as++[a]) (bs++[b])
 | _,_,.nil=>.cons h .nil
 | _,_,.cons r t=>.cons r (Paired.snoc h t)
theorem Paired.app {α β:Type} {R:α→β→Prop}:∀{as as':List α} {bs bs':List β},Paired R as bs→Paired R as' bs'→Paired R (as++as') (bs++bs')
 | _,_,_,_,.nil,h=>h
 | _,_,_,_,.cons r t,h=>.cons r (Paired.app t h)
theorem Paired.tk {α β:Type} {R:α→β→Prop}:∀{as:List α} {bs:List β} (n:Nat),Paired R as bs→Paired R (as.take n) (bs.take n)
 | _,_,0,_=>.nil
 | _,_,_+1,.nil=>.nil
 | _,_,n+1,.cons r t=>.cons r (Paired.tk n t)
theorem Paired.dr {α β:Type} {R:α→β→Prop}:∀{as:List α} {bs:List β} (n:Nat),Paired R as bs→Paired R (as.drop n) (bs.drop n)
 | _,_,0,h=>h
 | _,_,_+1,.nil=>.nil
 | _,_,n+1,.cons _ t=>Paired.dr n t
section
variable {CP CT:Addr} {H H':Hp} {a h t pl rl l:Addr} {p:Point} {s:State} {L:Lay}
theorem PtAt.same (x:PtAt CP H a h p) (k:Same H H'):PtAt CP H' a h p:=let ⟨dx,fs,e,f⟩:=x;⟨dx,fs,k _ _ e,f⟩
theorem TwAt.same (x:TwAt CT H t pl rl s) (k:Same H H'):TwAt CT H' t pl rl s:=let ⟨dx,fs,e,f⟩:=x;⟨dx,fs,k _ _ e,f⟩
theorem TupsAt.same {ts:List Addr} {xss:List (List V)} (x:TupsAt H ts xss) (k:Same H H'):TupsAt H' ts xss:=Paired.imp' (λ_ _ e=>k _ _ e) x
theorem RowsAt.same {xss:List (List V)} (x:RowsAt H l xss) (k:Same H H'):RowsAt H' l xss:=let ⟨ts,e,f⟩:=x;⟨ts,k _ _ e,TupsAt.same f k⟩
theorem PtsAt.same {as:List (Addr×Addr)} {pts:List Point} (x:PtsAt CP H pl as pts) (k:Same H H'):PtsAt CP H' pl as pts:=⟨k _ _ x.lst,Paired.imp' (λ_ _ e=>PtAt.same e k) x.pt⟩
theorem TownAt.same (x:TownAt CP CT H t L s) (k:Same H H'):TownAt CP CT H' t L s :=
 ⟨x.tw.same k,x.pts.same k,Paired.imp' (λ_ _ e=>RowsAt.same e k) x.had,x.ret.same k,x.nd1,x.nd2⟩
theorem PtsAt.len {as:List (Addr×Addr)} {pts:List Point} (x:PtsAt CP H pl as pts):as.length=pts.length:=Paired.length x.pt
theorem TupsAt.kept {S:List Addr} {ts:List Addr} {xss:List (List V)} (x:TupsAt H ts xss) (k:Kept S H H') (hS:∀b∈S,∀xs,H b≠some (.tup xs)):TupsAt H' ts xss :=
 Paired.imp' (λt xs e=>k _ _ e λz=>hS t z xs e) x
theorem PtAt.kept {S:List Addr} (x:PtAt CP H a h p) (k:Kept S H H') (ha:a∉S):PtAt CP H' a h p:=let ⟨dx,fs,e,f⟩:=x;⟨dx,fs,k _ _ e ha,f⟩
theorem TwAt.kept {S:List Addr} (x:TwAt CT H t pl rl s) (k:Kept S H H') (ha:t∉S):TwAt CT H' t pl rl s:=let ⟨dx,fs,e,f⟩:=x;⟨dx,fs,k _ _ e ha,f⟩
theorem RowsAt.kept {S:List Addr} {xss:List (List V)} (x:RowsAt H l xss) (k:Kept S H H') (hl:l∉S) (hS:∀b∈S,∀xs,H b≠some (.tup xs)):RowsAt H' l xss :=
 let ⟨ts,e,f⟩:=x;⟨ts,k _ _ e hl,TupsAt.kept f k hS⟩
theorem PtAt.is {x:HO} (q:PtAt CP H a h p) (e:H a=some x):∃dx fs,x=.ins CP dx fs:=by
 obtain⟨dx,fs,e1,_⟩:=q
 rw[e] at e1
 exact⟨dx,fs,Option.some.inj e1⟩
theorem TwAt.is {x:HO} (q:TwAt CT H t pl rl s) (e:H t=some x):∃dx fs,x=.ins CT dx fs:=by
 obtain⟨dx,fs,e1,_⟩:=q
 rw[e] at e1
 exact⟨dx,fs,Option.some.inj e1⟩
theorem RowsAt.is {x:HO} {xss:List (List V)} (q:RowsAt H l xss) (e:H l=some x):∃xs,x=.lst xs:=by
 obtain⟨ts,e1,_⟩:=q
 rw[e] at e1
 exact⟨_,Option.some.inj e1⟩
theorem RowsAt.notTup {xss:List (List V)} (q:RowsAt H l xss):∀xs,H l≠some (.tup xs):=λxs e=>by obtain⟨ys,z⟩:=q.is e;cases z
theorem PtAt.notTup (q:PtAt CP H a h p):∀xs,H a≠some (.tup xs):=λxs e=>by obtain⟨_,_,z⟩:=q.is e;cases z
theorem TwAt.notTup (q:TwAt CT H t pl rl s):∀xs,H t≠some (.tup xs):=λxs e=>by obtain⟨_,_,z⟩:=q.is e;cases z
theorem zc0 {ts:List Addr} {xss:List (List V)} {tt:Addr} {xs:List V} (hl:H l=some (.lst (ts.map V.ref))) (tps:TupsAt H ts xss) (htt:H tt=none) :
  RowsAt (upd (upd H tt (.tup xs)) l (.lst (ts.map V.ref++[.ref tt]))) l (xss++[xs]):=by
 have nlt:tt≠l:=λz=>by rw[z,hl] at htt;cases htt
 refine⟨ts++[tt],by rw[za1,List.map_append];rfl,Paired.snoc (by show upd _ _ _ tt=_;rw[za6 nlt,za1]) (Paired.imp' (λt ys e=>?_) tps)⟩
 show upd _ _ _ t=_
 rw[za6 (ne_of e hl (λz=>nomatch z)),za6 (za7 e htt)]
 exact e
theorem zfE {ts:List V} {tt:Addr} {o:HO} (htt:H tt=none):Kept [l] H (upd (upd H tt o) l (.lst ts)):=λb u e hb=>by
 rw[za6 (by simpa using hb),za6 (za7 e htt)]
 exact e
theorem TownAt.pl_ne (x:TownAt CP CT H t L s):L.pl≠L.rl∧(∀y∈L.ps,y.2≠L.pl∧y.2≠L.rl):=by
 have h:=x.nd2
 rw[List.nodup_cons,List.nodup_cons] at h
 obtain⟨h1,h2,_⟩:=h
 refine⟨λz=>h1 (by rw[z];exact List.mem_cons_self),λy hy=>⟨λz=>h1 ?_,λz=>h2 ?_⟩⟩
 ·rw[←z];exact List.mem_cons_of_mem _ (List.mem_map.mpr ⟨y,hy,rfl⟩)
 ·rw[←z];exact List.mem_map.mpr ⟨y,hy,rfl⟩
theorem Paired.memL {α β:Type} {R:α→β→Prop} {R':α→β→Prop}:∀{as:List α} {bs:List β},Paired R as bs→(∀a∈as,∀b∈bs,R a b→R' a b)→Paired R' as bs
 | _,_,.nil,_=>.nil
 | _,_,.cons r t,h=>.cons (h _ List.mem_cons_self _ List.mem_cons_self r) (Paired.memL t λa ha b hb=>h a (List.mem_cons_of_mem _ ha) b (List.mem_cons_of_mem _ hb))
theorem TownAt.setRet {r:List Retired} (x:TownAt CP CT H t L s) (k:Kept [L.rl] H H') (h:RowsAt H' L.rl (r.map retV)):TownAt CP CT H' t L { s with retired:=r }:=by
 obtain⟨n1,n2⟩:=x.pl_ne
 have hS:∀b∈[L.rl],∀xs,H b≠some (.tup xs):=λb hb=>by rw[List.mem_singleton.mp hb];exact x.ret.notTup
 have ins:∀{a:Addr} {o:HO},H a=some o→(∀xs,o≠.lst xs)→a∉[L.rl]:=λ{a o} e hn hm=>by
  rw[List.mem_singleton.mp hm] at e
  obtain⟨xs,z⟩:=x.ret.is e
  exact hn xs z
 refine⟨?_,⟨k _ _ x.pts.lst (by simpa using n1),Paired.imp' (λy p q=>?_) x.pts.pt⟩,Paired.memL x.had λy hy p hp q=>?_,h,x.nd1,x.nd2⟩
 ·obtain⟨dx,fs,e,F⟩:=x.tw
  exact⟨dx,fs,k _ _ e (ins e λxs z=>nomatch z),⟨F.day,F.grace,F.cap,F.points,F.retired,F.given,F.few,F.noR⟩⟩
 ·obtain⟨dx,fs,e,F⟩:=q
  exact⟨dx,fs,k _ _ e (ins e λxs z=>nomatch z),F⟩
 ·exact q.kept k (by simpa using (n2 y hy).2) hS
end
end Pd
end
section
namespace Pd
open PySem PySem.Spec PyProof.Rows L2 PySem.W PySem.Calls
noncomputable def runT (st:SharedT→Thread→Option (SharedT×Thread)) (ok:Thread→Bool) (n:Nat):SharedT→Thread→Option SharedT :=
 Nat.rec (λ_ _=>none) (λ_ ih s t=>match through t with
  | true=>some s
  | false=>match ok t with
   | false=>none
   | true=>match st s t with
    | some r=>ih r.1 r.2
    | none=>none) n
theorem zqd {tb:String→Option Builtin} {p:Program} {w:World} {m:Nat} {a:Option Value} (n:Nat):∀(s u:SharedT) (t:Thread),runT (stepT (denote tb) p w) (stepOk m a) n s t=some u→topRun tb p w m a n s.abs t=some u.abs:=by
 induction n with
 | zero=>intro s u t h;cases h
 | succ n ih =>
  intro s u t h
  rw[topRun]
  replace h:(match through t with
   | true=>some s
   | false=>match stepOk m a t with
    | false=>none
    | true=>match stepT (denote tb) p w s t with
     | some r=>runT (stepT (denote tb) p w) (stepOk m a) n r.1 r.2
     | none=>none)=some u:=h
  split at h
  ·next z=>cases h;rw[z]
  ·next z =>
   rw[z]
   split at h
   ·cases h
   ·next k =>
    rw[k]
    split at h
    ·next r q=>rw[stepT_spec (s':=r.1) (t':=r.2) q];exact ih _ _ _ h
    ·cases h
theorem zqw {p q:Program} {X:Shared→Bool} {β:Type} {f:Shared→β} {g:World→β} {n m c:Nat} {H:Params→Heap} {G:Array GenState} {D:Drawn} {a:Option Value}
  (ho:∀w:World,∃os,fencedOpening treeTable p w n=some ⟨H w.params,G,D,c,os⟩) (hg:G.size=0) (hn:∀P,(H P).isNs mainGlobals=true) (hm:∀P,(H P).objs.size=m) (ha:∀P,(H P).nsMap mainGlobals "__annotations__"=a)
  (hr:∀w os,∃s,topRun treeTable p w m a n ⟨H w.params,G,D,c,os⟩ (topStub p)=some s∧(staticsOk (importedModules p.main.body) (H w.params) s.heap && namesBound p s.heap && gensDone s && laidKept (H w.params) s.heap)=true∧
   openSeen q [] (importedModules p.main.body) X true s=openGood q []∧f s=g w):LeftO p q [] X f g n:=by
 intro w
 obtain⟨os,e⟩:=ho w
 obtain⟨s,r,u,v,x⟩:=hr w os
 have y:openEnds treeTable p w n=some s:=by
  rw[openEnds,e,Option.bind_some,topFrom]
  simp only[hn,hg,hm,ha,r,u,beq_self_eq_true,Bool.and_self,Option.bind_some]
 rw[y,Option.map_some,v,x]
theorem booted {p:Program} {n c:Nat} {H:Params→Heap} {G:Array GenState} {D:Drawn} (h:∀w:World,(fencedOpening treeTable p w n).map (λs=>(s.heap,s.gens,s.drawn,s.toks))=some (H w.params,G,D,c)) (w:World):∃os,fencedOpening treeTable p w n=some ⟨H w.params,G,D,c,os⟩:=by
 obtain⟨s,e,z⟩:=Option.map_eq_some_iff.mp (h w)
 simp only[Prod.mk.injEq] at z
 obtain⟨a,b,x,y⟩:=z
 exact⟨s.os,by rw[e,←a,←b,←x,←y]⟩
def gkC0 (n q:Str) (t:Nat) (L c:Int) (A r:Nat) (x y:Value) (m:Nat):Obj:=⟨.type "code",none,.fields #[.str n t,.str q (t+1),.str "/claim/cut.py" (t+2),.int L 0,.int c 0,.int 0 0,.int 0 0,.int 3 0,.ref r,.bool true,.int 181 0,.ref (r+1),.none,x,y,.ref (A - 1),.int m 0,.int L 0,.str "/claim/cut.py" (m+1)],#[]⟩
def gkC (n q:Str) (t:Nat) (L c:Int) (A m:Nat):Obj:=gkC0 n q t L c A (A - 5) (.ref (A - 3)) (.ref (A - 2)) m
def gkB (n q:Str) (t:Nat) (L c:Int) (A m:Nat):Obj:=gkC0 n q t L c A (A - 3) .none .none m
def gkF (n q:Str) (i:Stmt) (m:Value) (c:Nat):Obj:=⟨.type "function",none,.func (PySem.W.fnOf n q (defArgs i) (defBody i) (defScope i) .none .none .none m none (.ref c) .none),#[]⟩
def gkM0:Value:=.str "postdistricts.codebook" 187
def gkM1:Value:=.str "postdistricts.common" 360
def gkM2:Value:=.str "postdistricts.partings" 398
def gkM3:Value:=.str "postdistricts.records" 538
def gkM4:Value:=.str "postdistricts.actions" 620
def gkM5:Value:=.str "postdistricts.lettering" 707
def gkM6:Value:=.str "postdistricts.questions" 737
def gkM7:Value:=.str "postdistricts.town" 860
def gkD (P:Params) (l:List (Str×Nat×Value)) (n:Nat):Obj:=⟨.type "dict",none,.dict (l.map λx=>⟨PyData.keyHash P x.1,.str x.1 x.2.1,x.2.2⟩).toArray n,#[]⟩
def gkV (k:Str) (t:Nat) (v:Value):Str×Nat×Value:=(k,t,v)
def gkR (k:Str) (t a:Nat):Str×Nat×Value:=(k,t,.ref a)
def gkI (k:Str) (t:Nat) (i:Int):Str×Nat×Value:=(k,t,.int i (t - 1))
def gkT (n:Str) (a:Nat) (b:List Value) (x:Option Value) (z:String) (t:Nat):Obj:=⟨.type "type",none,.cls { name:=n,bases:=[b.headD .none],mro:=.ref (a+1)::b,ns:=a,qualname:=n },#[x,none,some (.str n t),some (.str n (t+8)),some (.builtin z),some (.bool true)]⟩
def gkO (n:Str) (a t:Nat):Obj:=gkT n a [.type "object"] none "object.__new__" t
def gkX1 (n:Str) (a t:Nat):Obj:=gkT n a [.type "Exception",.type "BaseException",.type "object"] (some (.ref (a - 8))) "Exception.__new__" t
def gkX0 (P:Params) (L:Int) (a t:Nat):Obj:=gkD P [("__module__",t+7,.str "postdistricts.refusals" 258),("__firstlineno__",t+11,.int L (t+10)),("__static_attributes__",t+12,.ref (a - 1)),("__weakref__",t+14,.ref (a+2)),("__doc__",t+15,.none)] 3
noncomputable def gkK (P:Params):PySem.W.Frag :=
 (nat_lit 3,gkD P [gkV "__name__" 165 gkM7,gkV "__doc__" 166 .none,gkV "__package__" 167 .none,gkV "__loader__" 168 (.builtin "__main__.__loader__#opaque"),gkV "__spec__" 169 .none,gkR "__annotations__" 170 6,gkR "__builtins__" 171 4,gkV "__file__" 173 (.str "/claim/cut.py" 172),gkV "__cached__" 174 .none,gkI "NO_CODE" 190 0,gkI "LEAST_CODE" 192 100,gkI "GREATEST_CODE" 194 999,gkR "codes_of" 203 21,gkR "is_within_grace" 211 28,gkR "codes_still_read" 217 33,gkR "withheld_codes" 228 40,gkR "may_be_given" 236 47,gkR "least_free_codes" 242 52,gkR "give_code" 251 59,gkR "retire_codes" 257 64,gkR "NotInRange" 279 74,gkR "NotAsTold" 299 87,gkR "NoSuchPoint" 319 100,gkR "NoPlan" 339 113,gkR "TooMany" 359 126,gkI "GREATEST_NUMBER" 363 1000000,gkR "check_range" 372 136,gkR "find_point" 381 143,gkR "as_row" 388 150,gkR "as_one_row" 397 157,gkI "NEW_CODE" 401 0,gkR "codes_by_point" 411 164,gkR "count_kept" 417 169,gkR "are_all_points_in" 425 176,gkR "are_codes_fit" 436 183,gkR "are_loads_borne" 442 188,gkR "might_be" 451 195,gkR "first_districts" 469 202,gkR "is_taken_behind" 480 209,gkR "best_choice" 498 216,gkR "best_choices" 508 223,gkR "best_districts" 523 230,gkR "with_new_codes" 529 235,gkR "make_plan" 537 242,gkR "Point" 575 259,gkR "Town" 619 287,gkI "MOST_POINTS" 623 40,gkI "GREATEST_LOAD" 625 1000000,gkI "GREATEST_CAP" 627 1000000,gkI "GREATEST_GRACE" 629 1000,gkI "MOST_DAYS" 631 1000,gkI "LAST_DAY" 633 100000,gkR "begin_anew" 642 298,gkR "code_at_place" 650 305,gkR "put_point" 660 312,gkR "change_load" 671 319,gkR "remove_point" 677 324,gkR "change_cap" 686 331,gkR "pass_days" 694 338,gkR "adopt_plan" 706 345,gkI "DIGIT_ZERO" 710 48,gkI "DIGIT_NINE" 712 57,gkI "LETTER_A" 714 65,gkI "TEXT_LENGTH" 716 4,gkR "text_of" 727 352,gkR "code_read_from" 736 359,gkI "GREATEST_JUDGED" 740 1000,gkI "MOST_FREE_TOLD" 742 50,gkI "NOT_READ" 744 0,gkI "READ_AS_OWN" 746 1,gkI "READ_AS_HAD_BEFORE" 748 2,gkR "tell_plan" 756 366,gkR "judge_parting" 767 373,gkR "tell_code" 776 380,gkR "tell_district" 782 385,gkR "how_read" 791 392,gkR "tell_reading" 802 399,gkR "tell_text" 809 406,gkR "check_text" 816 413,gkR "tell_history" 829 420,gkR "tell_retired" 836 427,gkR "tell_row" 842 432,gkR "tell_free" 851 439,gkR "tell_counts" 859 446,gkI "FIRST_GRACE" 863 30,gkI "FIRST_CAP" 865 100,gkR "CHANGES" 873 447,gkR "Reader" 927 485,gkR "answer_change" 936 496,gkR "answer_question" 945 503,gkR "answer_call" 954 510,gkR "answer_or_refusal" 962 517,gkR "answers" 973 524] 93) ::
 (nat_lit 20,gkC "codes_of" "codes_of" 195 5 1 20 201) ::
 (nat_lit 21,gkF "codes_of" "codes_of" (top 4) gkM0 20) ::
 (nat_lit 27,gkC "is_within_grace" "is_within_grace" 204 11 2 27 209) ::
 (nat_lit 28,gkF "is_within_grace" "is_within_grace" (top 5) gkM0 27) ::
 (nat_lit 32,gkB "codes_still_read" "codes_still_read" 212 13 2 32 215) ::
 (nat_lit 33,gkF "codes_still_read" "codes_still_read" (top 6) gkM0 32) ::
 (nat_lit 39,gkC "withheld_codes" "withheld_codes" 218 15 1 39 226) ::
 (nat_lit 40,gkF "withheld_codes" "withheld_codes" (top 7) gkM0 39) ::
 (nat_lit 46,gkC "may_be_given" "may_be_given" 229 26 2 46 234) ::
 (nat_lit 47,gkF "may_be_given" "may_be_given" (top 8) gkM0 46) ::
 (nat_lit 51,gkB "least_free_codes" "least_free_codes" 237 28 2 51 240) ::
 (nat_lit 52,gkF "least_free_codes" "least_free_codes" (top 9) gkM0 51) ::
 (nat_lit 58,gkC "give_code" "give_code" 243 32 3 58 249) ::
 (nat_lit 59,gkF "give_code" "give_code" (top 10) gkM0 58) ::
 (nat_lit 63,gkB "retire_codes" "retire_codes" 252 39 2 63 255) ::
 (nat_lit 64,gkF "retire_codes" "retire_codes" (top 11) gkM0 63) ::
 (nat_lit 73,gkX0 P 46 73 260) ::
 (nat_lit 74,gkX1 "NotInRange" 73 260) ::
 (nat_lit 86,gkX0 P 48 86 280) ::
 (nat_lit 87,gkX1 "NotAsTold" 86 280) ::
 (nat_lit 99,gkX0 P 50 99 300) ::
 (nat_lit 100,gkX1 "NoSuchPoint" 99 300) ::
 (nat_lit 112,gkX0 P 52 112 320) ::
 (nat_lit 113,gkX1 "NoPlan" 112 320) ::
 (nat_lit 125,gkX0 P 54 125 340) ::
 (nat_lit 126,gkX1 "TooMany" 125 340) ::
 (nat_lit 135,gkC "check_range" "check_range" 364 58 3 135 370) ::
 (nat_lit 136,gkF "check_range" "check_range" (top 20) gkM1 135) ::
 (nat_lit 142,gkC "find_point" "find_point" 373 61 2 142 379) ::
 (nat_lit 143,gkF "find_point" "find_point" (top 21) gkM1 142) ::
 (nat_lit 149,gkC "as_row" "as_row" 382 67 1 149 386) ::
 (nat_lit 150,gkF "as_row" "as_row" (top 22) gkM1 149) ::
 (nat_lit 156,gkC "as_one_row" "as_one_row" 389 69 1 156 395) ::
 (nat_lit 157,gkF "as_one_row" "as_one_row" (top 23) gkM1 156) ::
 (nat_lit 163,gkC "codes_by_point" "codes_by_point" 402 76 1 163 409) ::
 (nat_lit 164,gkF "codes_by_point" "codes_by_point" (top 26) gkM2 163) ::
 (nat_lit 168,gkB "count_kept" "count_kept" 412 81 2 168 415) ::
 (nat_lit 169,gkF "count_kept" "count_kept" (top 27) gkM2 168) ::
 (nat_lit 175,gkC "are_all_points_in" "are_all_points_in" 418 84 2 175 423) ::
 (nat_lit 176,gkF "are_all_points_in" "are_all_points_in" (top 28) gkM2 175) ::
 (nat_lit 182,gkC "are_codes_fit" "are_codes_fit" 426 86 2 182 434) ::
 (nat_lit 183,gkF "are_codes_fit" "are_codes_fit" (top 29) gkM2 182) ::
 (nat_lit 187,gkB "are_loads_borne" "are_loads_borne" 437 95 3 187 440) ::
 (nat_lit 188,gkF "are_loads_borne" "are_loads_borne" (top 30) gkM2 187) ::
 (nat_lit 194,gkC "might_be" "might_be" 443 102 3 194 449) ::
 (nat_lit 195,gkF "might_be" "might_be" (top 31) gkM2 194) ::
 (nat_lit 201,gkC "first_districts" "first_districts" 452 106 4 201 467) ::
 (nat_lit 202,gkF "first_districts" "first_districts" (top 32) gkM2 201) ::
 (nat_lit 208,gkC "is_taken_behind" "is_taken_behind" 470 122 5 208 478) ::
 (nat_lit 209,gkF "is_taken_behind" "is_taken_behind" (top 33) gkM2 208) ::
 (nat_lit 215,gkC "best_choice" "best_choice" 481 126 5 215 496) ::
 (nat_lit 216,gkF "best_choice" "best_choice" (top 34) gkM2 215) ::
 (nat_lit 222,gkC "best_choices" "best_choices" 499 133 2 222 506) ::
 (nat_lit 223,gkF "best_choices" "best_choices" (top 35) gkM2 222) ::
 (nat_lit 229,gkC "best_districts" "best_districts" 509 140 2 229 521) ::
 (nat_lit 230,gkF "best_districts" "best_districts" (top 36) gkM2 229) ::
 (nat_lit 234,gkB "with_new_codes" "with_new_codes" 524 153 2 234 527) ::
 (nat_lit 235,gkF "with_new_codes" "with_new_codes" (top 37) gkM2 234) ::
 (nat_lit 241,gkC "make_plan" "make_plan" 530 162 1 241 535) ::
 (nat_lit 242,gkF "make_plan" "make_plan" (top 38) gkM2 241) ::
 (nat_lit 255,gkC "__init__" "Point.__init__" 552 170 5 255 560) ::
 (nat_lit 256,gkF "__init__" "Point.__init__" (inClass (top 40) 0) gkM3 255) ::
 (nat_lit 258,gkD P [gkV "__module__" 547 gkM3,gkI "__firstlineno__" 551 168,gkR "__init__" 562 256,gkR "__static_attributes__" 568 257,gkR "__dict__" 570 260,gkR "__weakref__" 572 261,gkV "__doc__" 573 .none] 4) ::
 (nat_lit 259,gkO "Point" 258 540) ::
 (nat_lit 276,gkC "__init__" "Town.__init__" 588 178 3 276 594) ::
 (nat_lit 277,gkF "__init__" "Town.__init__" (inClass (top 41) 0) gkM3 276) ::
 (nat_lit 283,gkC "renew" "Town.renew" 597 181 3 283 603) ::
 (nat_lit 284,gkF "renew" "Town.renew" (inClass (top 41) 1) gkM3 283) ::
 (nat_lit 286,gkD P [gkV "__module__" 583 gkM3,gkI "__firstlineno__" 587 176,gkR "__init__" 596 277,gkR "renew" 605 284,gkR "__static_attributes__" 612 285,gkR "__dict__" 614 288,gkR "__weakref__" 616 289,gkV "__doc__" 617 .none] 4) ::
 (nat_lit 287,gkO "Town" 286 576) ::
 (nat_lit 297,gkC "begin_anew" "begin_anew" 634 195 3 297 640) ::
 (nat_lit 298,gkF "begin_anew" "begin_anew" (top 49) gkM4 297) ::
 (nat_lit 304,gkC "code_at_place" "code_at_place" 643 200 2 304 648) ::
 (nat_lit 305,gkF "code_at_place" "code_at_place" (top 50) gkM4 304) ::
 (nat_lit 311,gkC "put_point" "put_point" 651 206 3 311 658) ::
 (nat_lit 312,gkF "put_point" "put_point" (top 51) gkM4 311) ::
 (nat_lit 318,gkC "change_load" "change_load" 661 215 3 318 669) ::
 (nat_lit 319,gkF "change_load" "change_load" (top 52) gkM4 318) ::
 (nat_lit 323,gkB "remove_point" "remove_point" 672 221 2 323 675) ::
 (nat_lit 324,gkF "remove_point" "remove_point" (top 53) gkM4 323) ::
 (nat_lit 330,gkC "change_cap" "change_cap" 678 227 2 330 684) ::
 (nat_lit 331,gkF "change_cap" "change_cap" (top 54) gkM4 330) ::
 (nat_lit 337,gkC "pass_days" "pass_days" 687 232 2 337 692) ::
 (nat_lit 338,gkF "pass_days" "pass_days" (top 55) gkM4 337) ::
 (nat_lit 344,gkC "adopt_plan" "adopt_plan" 695 238 1 344 704) ::
 (nat_lit 345,gkF "adopt_plan" "adopt_plan" (top 56) gkM4 344) ::
 (nat_lit 351,gkC "text_of" "text_of" 717 250 1 351 725) ::
 (nat_lit 352,gkF "text_of" "text_of" (top 62) gkM5 351) ::
 (nat_lit 358,gkC "code_read_from" "code_read_from" 728 256 1 358 734) ::
 (nat_lit 359,gkF "code_read_from" "code_read_from" (top 63) gkM5 358) ::
 (nat_lit 365,gkC "tell_plan" "tell_plan" 749 273 1 365 754) ::
 (nat_lit 366,gkF "tell_plan" "tell_plan" (top 70) gkM6 365) ::
 (nat_lit 372,gkC "judge_parting" "judge_parting" 757 276 3 372 765) ::
 (nat_lit 373,gkF "judge_parting" "judge_parting" (top 71) gkM6 372) ::
 (nat_lit 379,gkC "tell_code" "tell_code" 768 284 2 379 774) ::
 (nat_lit 380,gkF "tell_code" "tell_code" (top 72) gkM6 379) ::
 (nat_lit 384,gkB "tell_district" "tell_district" 777 287 2 384 780) ::
 (nat_lit 385,gkF "tell_district" "tell_district" (top 73) gkM6 384) ::
 (nat_lit 391,gkC "how_read" "how_read" 783 292 3 391 789) ::
 (nat_lit 392,gkF "how_read" "how_read" (top 74) gkM6 391) ::
 (nat_lit 398,gkC "tell_reading" "tell_reading" 792 298 3 398 800) ::
 (nat_lit 399,gkF "tell_reading" "tell_reading" (top 75) gkM6 398) ::
 (nat_lit 405,gkC "tell_text" "tell_text" 803 304 1 405 807) ::
 (nat_lit 406,gkF "tell_text" "tell_text" (top 76) gkM6 405) ::
 (nat_lit 412,gkC "check_text" "check_text" 810 307 1 412 814) ::
 (nat_lit 413,gkF "check_text" "check_text" (top 77) gkM6 412) ::
 (nat_lit 419,gkC "tell_history" "tell_history" 817 309 2 419 827) ::
 (nat_lit 420,gkF "tell_history" "tell_history" (top 78) gkM6 419) ::
 (nat_lit 426,gkC "tell_retired" "tell_retired" 830 315 1 426 834) ::
 (nat_lit 427,gkF "tell_retired" "tell_retired" (top 79) gkM6 426) ::
 (nat_lit 431,gkB "tell_row" "tell_row" 837 317 1 431 840) ::
 (nat_lit 432,gkF "tell_row" "tell_row" (top 80) gkM6 431) ::
 (nat_lit 438,gkC "tell_free" "tell_free" 843 319 2 438 849) ::
 (nat_lit 439,gkF "tell_free" "tell_free" (top 81) gkM6 438) ::
 (nat_lit 445,gkC "tell_counts" "tell_counts" 852 323 1 445 857) ::
 (nat_lit 446,gkF "tell_counts" "tell_counts" (top 82) gkM6 445) ::
 (nat_lit 447,⟨.type "tuple",none,.seq #[.int 0 866,.int 1 867,.int 2 868,.int 3 869,.int 4 870,.int 5 871,.int 7 872] 0,#[]⟩) ::
 (nat_lit 460,gkC "__init__" "Reader.__init__" 886 332 2 460 891) ::
 (nat_lit 461,gkF "__init__" "Reader.__init__" (inClass (top 87) 0) gkM7 460) ::
 (nat_lit 467,gkC "has_more" "Reader.has_more" 894 336 1 467 898) ::
 (nat_lit 468,gkF "has_more" "Reader.has_more" (inClass (top 87) 1) gkM7 467) ::
 (nat_lit 474,gkC "take_number" "Reader.take_number" 901 339 1 474 906) ::
 (nat_lit 475,gkF "take_number" "Reader.take_number" (inClass (top 87) 2) gkM7 474) ::
 (nat_lit 481,gkC "take_row" "Reader.take_row" 909 344 1 481 915) ::
 (nat_lit 482,gkF "take_row" "Reader.take_row" (inClass (top 87) 3) gkM7 481) ::
 (nat_lit 484,gkD P [gkV "__module__" 881 gkM7,gkI "__firstlineno__" 885 330,gkR "__init__" 893 461,gkR "has_more" 900 468,gkR "take_number" 908 475,gkR "take_row" 917 482,gkR "__static_attributes__" 920 483,gkR "__dict__" 922 486,gkR "__weakref__" 924 487,gkV "__doc__" 925 .none] 4) ::
 (nat_lit 485,gkO "Reader" 484 874) ::
 (nat_lit 495,gkC "answer_change" "answer_change" 928 349 3 495 934) ::
 (nat_lit 496,gkF "answer_change" "answer_change" (top 88) gkM7 495) ::
 (nat_lit 502,gkC "answer_question" "answer_question" 937 363 3 502 943) ::
 (nat_lit 503,gkF "answer_question" "answer_question" (top 89) gkM7 502) ::
 (nat_lit 509,gkC "answer_call" "answer_call" 946 389 2 509 952) ::
 (nat_lit 510,gkF "answer_call" "answer_call" (top 90) gkM7 509) ::
 (nat_lit 516,gkC "answer_or_refusal" "answer_or_refusal" 955 394 2 516 960) ::
 (nat_lit 517,gkF "answer_or_refusal" "answer_or_refusal" (top 91) gkM7 516) ::
 (nat_lit 523,gkC "answers" "answers" 963 407 1 523 971) ::
 (nat_lit 524,gkF "answers" "answers" (top 92) gkM7 523)::[]
noncomputable def gkA:List Addr:=[3,20,21,27,28,32,33,39,40,46,47,51,52,58,59,63,64,73,74,86,87,99,100,112,113,125,126,135,136,142,143,149,150,156,157,163,164,168,169,175,176,182,183,187,188,194,195,201,202,208,209,215,216,222,223,229,230,234,235,241,242,255,256,258,259,276,277,283,284,286,287,297,298,304,305,311,312,318,319,323,324,330,331,337,338,344,345,351,352,358,359,365,366,372,373,379,380,384,385,391,392,398,399,405,406,412,413,419,420,426,427,431,432,438,439,445,446,447,460,461,467,468,474,475,481,482,484,485,495,496,502,503,509,510,516,517,523,524]
noncomputable def gkQ:Program:={ PySem.Challenge.pw_postdistricts_s01_answers with main:={ PySem.Challenge.pw_postdistricts_s01_answers.main with body:=((List.range 93).filter λi=>![0,12,18,24,39,42,57,64,83].contains i).map top } }
abbrev gkP:Program:=PySem.Challenge.pw_postdistricts_s01_answers
noncomputable def gkX (s:Shared):Bool:=xlAt gkQ [] s && recOk [] s
theorem gkE (P:Params):gkA=(gkK P).map (·.1):=by kernel_rfl
noncomputable abbrev gkH:Hook:=kHook gkK gkA gkE
noncomputable abbrev s0H (w:World) (os:OsState):Shared:=⟨boot_heap w.params,Array.mk [],boot_drawn,boot_toks,os⟩
noncomputable abbrev s0T (w:World) (os:OsState):SharedT:=⟨((boot_heap w.params).objs.toList.foldl (λx o=>(x.1.ins x.2 o,x.2+1)) (BT.nil,0)).1,11,(boot_heap w.params).life,Array.mk [],boot_drawn,boot_toks,os⟩
noncomputable abbrev gkG (w:World) (os:OsState):Option SharedT:=runT (Fast.tw10156331382660048174 (Fast.tw11892475500146522536 Fast.tw14364793385576792824) gkP w) (Fast.tw6613529449190102663 11 (some (.ref 6))) 7558 (s0T w os) (topStub gkP)
noncomputable abbrev gkJ:List Str:=importedModules gkP.main.body
noncomputable abbrev gkLs:List Str:=looseW gkQ []
theorem gkRA (w:World) (os:OsState):(gkG w os).map (λs=>(staticsOk gkJ (boot_heap w.params) s.abs.heap && namesBound gkP s.abs.heap && gensDone s.abs && laidKept (boot_heap w.params) s.abs.heap))=some true:=by kernel_rfl
theorem gkRB (w:World) (os:OsState):(gkG w os).map (λs=>seen ((recsOf gkQ).map (·.name)) (ownsOf gkQ) [] { s.abs with gens:=#[] })=some (expectedOf gkQ):=by kernel_rfl
theorem gkRC (w:World) (os:OsState):(gkG w os).map (λs=>(s.abs.heap.bltView,s.abs.heap.keysOk gkLs ((recsOf gkQ).map (·.name)) ((litsOf gkQ).map (·.1)) ((clssOf gkQ gkLs).map (·.name))))=some (bltViewBooted,true):=by kernel_rfl
theorem gkRD (w:World) (os:OsState):(gkG w os).map (λs=>(s.abs.heap.accountedOkI gkJ && s.abs.heap.isNs mainGlobals && s.abs.heap.isNs builtinsNs && tablesOk gkQ s.abs.heap && gkX s.abs && (if true then s.abs.gens.size == 0 else !leftWithCleanup s.abs.gens),tabsOk gkQ s.abs))=some (true,true):=by kernel_rfl
theorem gkRE (w:World) (os:OsState):(gkG w os).map (λs=>(pinSeenD gkQ (drecsOf gkQ) s.abs,plainSeenE gkQ gkLs s.abs,plainSeenD gkQ [] s.abs,wideSeen gkQ s.abs,clsSeenW gkQ [] s.abs))=some (pinGoodD (drecsOf gkQ),plainGoodE gkQ gkLs,plainGoodD gkQ [],wideGood gkQ,clsGoodW gkQ []):=by kernel_rfl
theorem gkRF (w:World) (os:OsState):(gkG w os).map (λs=>gkH.obs s.abs)=some (gkH.val w):=by kernel_rfl
theorem s0_eq (w:World) (os:OsState):(s0T w os).abs=s0H w os:=by kernel_rfl
theorem gkRun (w:World) (os:OsState):∃s,topRun treeTable gkP w 11 (some (.ref 6)) 7558 (s0H w os) (topStub gkP)=some s∧(staticsOk gkJ (boot_heap w.params) s.heap && namesBound gkP s.heap && gensDone s && laidKept (boot_heap w.params) s.heap)=true∧openSeen gkQ [] gkJ gkX true s=openGood gkQ []∧gkH.obs s=gkH.val w:=by
 obtain⟨s,e,l⟩:=Option.map_eq_some_iff.mp (gkRA w os)
 have b:=gkRB w os
 have c:=gkRC w os
 have d:=gkRD w os
 have f:=gkRE w os
 have g:=gkRF w os
 rw[e] at b c d f g
 have b:=Option.some.inj b
 have c:=Option.some.inj c
 have d:=Option.some.inj d
 have f:=Option.some.inj f
 have r:=e
 unfold gkG at r
 rw[←Fast.te10156331382660048174,←Fast.te11892475500146522536,←Fast.te14364793385576792824,←Fast.te6613529449190102663] at r
 refine⟨s.abs,s0_eq w os ▸ zqd _ _ _ _ r,l,?_,Option.some.inj g⟩
 obtain⟨c1,c2⟩:=Prod.mk.inj c
 obtain⟨d1,d2⟩:=Prod.mk.inj d
 unfold openSeen
 refine Prod.ext b (Prod.ext c1 (Prod.ext ?_ (Prod.ext d2 f)))
 show (_ && _ && _ && _ && _ && _ && _)=true
 rw[c2]
 exact d1
theorem gkLeft:LeftO gkP gkQ [] gkX gkH.obs gkH.val 7558:=zqw (booted (boot_open (by kernel_rfl) (by decide) λs=>by kernel_rfl)) rfl (λP=>by kernel_rfl) (λP=>by kernel_rfl) (λP=>by kernel_rfl) gkRun
end Pd
end
section
namespace Pd
open PySem PySem.Spec PyProof.Rows L2
open Vbpoan (State Point Old Retired codesOf loadsOf)
structure Adr where
 CP:Addr
 CT:Addr
 CR:Addr
 eR:Addr
 eT:Addr
 eP:Addr
 eN:Addr
 eM:Addr
theorem zii:bootBuiltins "sum"=some (.builtin "sum"):=by decide +kernel
theorem zoS:bootBuiltins "min"=some (.builtin "min"):=by decide +kernel
theorem zoR:bootBuiltins "set"=some (.type "set"):=by decide +kernel
theorem znq:bootBuiltins "list"=some (.type "list"):=by decide +kernel
structure Txt (K:PySem.W.Frag) (mg:Str→Option Value) (A:Adr):Prop where
 ne1:A.CP≠A.CT
 ne2:A.CP≠A.CR
 ne3:A.CT≠A.CR
 clCP:Cls K A.CP
 clCT:Cls K A.CT
 clCR:Cls K A.CR
 zfv:NoAttr K A.CP "number"
 zfw:NoAttr K A.CP "load"
 zb2:NoAttr K A.CP "code"
 zhx:NoAttr K A.CP "since"
 p_had:NoAttr K A.CP "had"
 t_day:NoAttr K A.CT "day"
 zln:NoAttr K A.CT "grace"
 t_cap:NoAttr K A.CT "cap"
 zap:NoAttr K A.CT "points"
 zdl:NoAttr K A.CT "retired"
 zfR:NoAttr K A.CT "numbers_given"
 zjv:NoAttr K A.CR "calls"
 r_at:NoAttr K A.CR "at"
 mgPoint:mg "Point"=some (.ref A.CP)
 mgTown:mg "Town"=some (.ref A.CT)
 mgReader:mg "Reader"=some (.ref A.CR)
 zbw:mg "NotInRange"=some (.ref A.eR)
 zbQ:mg "NotAsTold"=some (.ref A.eT)
 zci:mg "NoSuchPoint"=some (.ref A.eP)
 zhM:mg "NoPlan"=some (.ref A.eN)
 zej:mg "TooMany"=some (.ref A.eM)
 zjR:Err K A.eR
 zgN:Err K A.eT
 ziJ:Err K A.eP
 zow:Err K A.eN
 zgd:Err K A.eM
 b_len:mg "len"=none
 b_sum:mg "sum"=none
 b_min:mg "min"=none
 b_set:mg "set"=none
 zq3:mg "list"=none
 zmd:mg "range"=none
 b_zip:mg "zip"=none
 zme:mg "enumerate"=none
 zc2:∃u,mg "NO_CODE"=some (.int 0 u)
 zcp:∃u,mg "LEAST_CODE"=some (.int 100 u)
 zc3:∃u,mg "GREATEST_CODE"=some (.int 999 u)
 zdu:∃u,mg "GREATEST_NUMBER"=some (.int 1000000 u)
 zen:∃u,mg "NEW_CODE"=some (.int 0 u)
 zk2:∃u,mg "MOST_POINTS"=some (.int 40 u)
 zed:∃u,mg "GREATEST_LOAD"=some (.int 1000000 u)
 zeH:∃u,mg "GREATEST_CAP"=some (.int 1000000 u)
 zh6:∃u,mg "GREATEST_GRACE"=some (.int 1000 u)
 zm3:∃u,mg "MOST_DAYS"=some (.int 1000 u)
 znm:∃u,mg "LAST_DAY"=some (.int 100000 u)
 zcq:∃u,mg "DIGIT_ZERO"=some (.int 48 u)
 zl5:∃u,mg "DIGIT_NINE"=some (.int 57 u)
 znl:∃u,mg "LETTER_A"=some (.int 65 u)
 zk0:∃u,mg "TEXT_LENGTH"=some (.int 4 u)
 zgn:∃u,mg "GREATEST_JUDGED"=some (.int 1000 u)
 zh5:∃u,mg "MOST_FREE_TOLD"=some (.int 50 u)
 znk:∃u,mg "NOT_READ"=some (.int 0 u)
 zk1:∃u,mg "READ_AS_OWN"=some (.int 1 u)
 zes:∃u,mg "READ_AS_HAD_BEFORE"=some (.int 2 u)
 zk3:∃u,mg "FIRST_GRACE"=some (.int 30 u)
 zm4:∃u,mg "FIRST_CAP"=some (.int 100 u)
section
variable {X:Cx} {K:PySem.W.Frag}
theorem zls {es:List Expr} {k n:Nat} {t:TGs} {pos:Pos} (hK:X.K=K) (hc:X.calm=true) (h:PGs X es t) (hn:(assignEach es X.env).length=n:=by rfl) (hst:(assignEach es X.env).findIdx? (·.1)=none:=by rfl):PG X (.Tuple es k pos) (gTup K n t):=by
 subst hK;exact zgJ hc h hn hst
theorem zdG {e:Expr} {ta:TE} {f:Str} {pos:Pos} (hK:X.K=K) (he:PE X e ta) (hb:attributeBase e f X.env (eval e X.env)=eval e X.env):PE X (.Attribute e f pos) (tFld K ta f):=by
 subst hK;exact zab he hb
theorem zjB (hK:X.K=K):OpR X (compareOp .NotIn) (rIn K true):=by
 subst hK;exact ze4
end
theorem fm_if {α β:Type} (p:α→Bool) (f:α→β):∀l:List α,(l.filterMap λy=>if p y=true then some (f y) else none)=(l.filter p).map f
 | []=>rfl
 | a::l=>by
  rw[List.filterMap_cons,List.filter_cons]
  by_cases h:p a=true
  ·rw[if_pos h,if_pos h,List.map_cons,fm_if p f l]
  ·rw[if_neg h,if_neg h,fm_if p f l]
theorem zos {α β:Type} (f:α→β) (l:List α):(l.filterMap λy=>some (f y))=l.map f:=by
 induction l with
 | nil=>rfl
 | cons a l ih=>rw[List.filterMap_cons,List.map_cons,ih]
abbrev LcTurn (g:TG) (tt:TT) (te:TE) (vs:List Nat) (σ:L2.St) (x:V) (H:Hp) (R:Option V→Hp→Prop):Prop :=
 g x (wipe σ vs) H λσ2 H2=>wipe σ2 vs=wipe σ vs∧tt σ2 H2 λb H3=>if b=true then te σ2 H3 λy H4=>R (some y) H4 else R none H3
theorem zo6 {β:Type} {J:It} {g:TG} {tt:TT} {te:TE} {vs:List Nat} {σ:L2.St} {H:Hp} {Q:Addr→Hp→Prop} (ys:List β) (F:β→Option V) (hz:ys.length≤sizeLine)
  (go:∀i H',i < ys.length→Same H H'→J.go i H') (stop:∀H',Same H H'→J.stop ys.length H')
  (step:∀i x y H1 H',ys[i]?=some y→Same H H1→J.yld i H1 x H'→Same H1 H'∧∀R:Option V→Hp→Prop,(∀H'',Same H' H''→R (F y) H'')→LcTurn g tt te vs σ x H' R)
  (fin:∀H' D,Same H H'→H D=none→H' D=some (.lst (ys.filterMap F))→Q D H') :
  ∀D,H D=none→∃W:Nat→Nat→Hp→Prop,(∃m,W 0 m (upd H D (.lst [])))∧∀i m H,W i m H→
   (J.stop i H∧Q D H)∨(J.go i H∧∃Nx:Hp→Prop,(∀H',Nx H'→∃m',m' < m∧W (i+1) m' H')∧∀x H',J.yld i H x H'→g x (wipe σ vs) H' λσ2 H2=>wipe σ2 vs=wipe σ vs∧tt σ2 H2 λb H3 =>
    if b=true then te σ2 H3 λy H4=>∃acc,H4 D=some (.lst acc)∧acc.length < sizeLine∧Nx (upd H4 D (.lst (acc++[y]))) else Nx H3):=by
 intro D hD
 refine⟨λi m H'=>m=ys.length - i∧i≤ys.length∧Same H H'∧H' D=some (.lst ((ys.take i).filterMap F)),⟨ys.length,rfl,Nat.zero_le _,za8 hD,za1⟩,?_⟩
 rintro i m H1 ⟨rfl,hi,sm,hd⟩
 by_cases hlt:i < ys.length
 ·refine .inr ⟨go i H1 hlt sm,λH'=>Same H H'∧H' D=some (.lst ((ys.take (i+1)).filterMap F)),λH' p=>⟨ys.length - (i+1),by omega,rfl,hlt,p⟩,λx H' y=>?_⟩
  have hx:ys[i]?=some ys[i]:=List.getElem?_eq_getElem hlt
  obtain⟨s2,st⟩:=step i x ys[i] H1 H' hx sm y
  have et:(ys.take (i+1)).filterMap F=(ys.take i).filterMap F++(F ys[i]).toList:=by
   rw[zau hx,List.filterMap_append]
   cases q:F ys[i]<;>simp[q]
  have len:((ys.take i).filterMap F).length < sizeLine:=by
   have h1:=List.length_filterMap_le F (ys.take i)
   rw[List.length_take] at h1
   omega
  refine st (λo H4=>match o with
   | some y=>∃acc,H4 D=some (.lst acc)∧acc.length < sizeLine∧(Same H (upd H4 D (.lst (acc++[y])))∧upd H4 D (.lst (acc++[y])) D=some (.lst ((ys.take (i+1)).filterMap F)))
   | none=>Same H H4∧H4 D=some (.lst ((ys.take (i+1)).filterMap F))) λH4 s4=>?_
  have hd4:=s4 _ _ (s2 _ _ hd)
  cases hF:F ys[i] with
  | none =>
   rw[hF] at et
   refine⟨Same.trans sm (Same.trans s2 s4),?_⟩
   rw[et,hd4]
   simp
  | some y =>
   rw[hF] at et
   refine⟨_,hd4,len,λb o e=>?_,?_⟩
   ·rw[za6 (za7 e hD)]
    exact s4 _ _ (s2 _ _ (sm _ _ e))
   ·rw[za1,et]
    rfl
 ·have e:i=ys.length:=by omega
  subst e
  rw[List.take_length] at hd
  exact .inl ⟨stop H1 sm,fin H1 D sm hD hd⟩
theorem ze5 {β:Type} {K:PySem.W.Frag} {a:Addr} {xs:List V} {g:TG} {tt:TT} {te:TE} {vs:List Nat} {σ:L2.St} {H:Hp} {Q:Addr→Hp→Prop} (ys:List β) (F:β→Option V) (hS:SqL K H a xs) (hl:xs.length=ys.length) (hz:ys.length≤sizeLine)
  (step:∀(i:Nat) (x:V) (y:β),xs[i]?=some x→ys[i]?=some y→∀H',Same H H'→∀R:Option V→Hp→Prop,(∀H'',Same H' H''→R (F y) H'')→LcTurn g tt te vs σ x H' R)
  (fin:∀H' D,Same H H'→H D=none→H' D=some (.lst (ys.filterMap F))→Q D H') :
  ∀D,H D=none→∃W:Nat→Nat→Hp→Prop,(∃m,W 0 m (upd H D (.lst [])))∧∀i m H,W i m H→
   ((
    Itl K a).stop i H∧Q D H)∨((Itl K a).go i H∧∃Nx:Hp→Prop,(∀H',Nx H'→∃m',m' < m∧W (i+1) m' H')∧∀x H',(Itl K a).yld i H x H'→g x (wipe σ vs) H' λσ2 H2=>wipe σ2 vs=wipe σ vs∧tt σ2 H2 λb H3 =>
    if b=true then te σ2 H3 λy H4=>∃acc,H4 D=some (.lst acc)∧acc.length < sizeLine∧Nx (upd H4 D (.lst (acc++[y]))) else Nx H3) :=
 zo6 (J:=Itl K a) ys F hz (λi H' hi s1=>⟨xs,xs[i]'(by omega),s1.seq hS,by simp[hl,hi]⟩) (λH' s1=>⟨xs,s1.seq hS,by omega⟩)
  (λi x y H1 H' hy s1 hq=>by
   obtain⟨e,hx⟩:=hq
   subst e
   exact⟨Same.refl _,λR hR=>step i x y (hx xs (s1.seq hS)) hy _ s1 R hR⟩) fin
theorem zpA {lo:Int} {n:Nat} {g:TG} {tt:TT} {te:TE} {vs:List Nat} {σ:L2.St} {H:Hp} {Q:Addr→Hp→Prop} (F:Nat→Option V) (hz:n≤sizeLine)
  (step:∀i,i < n→∀H',Same H H'→∀R:Option V→Hp→Prop,(∀H'',Same H' H''→R (F i) H'')→LcTurn g tt te vs σ (.int (lo+i)) H' R)
  (fin:∀H' D,Same H H'→H D=none→H' D=some (.lst ((List.range n).filterMap F))→Q D H') :
  ∀D,H D=none→∃W:Nat→Nat→Hp→Prop,(∃m,W 0 m (upd H D (.lst [])))∧∀i m H,W i m H→
   ((
    Itr lo n).stop i H∧Q D H)∨((Itr lo n).go i H∧∃Nx:Hp→Prop,(∀H',Nx H'→∃m',m' < m∧W (i+1) m' H')∧∀x H',(Itr lo n).yld i H x H'→g x (wipe σ vs) H' λσ2 H2=>wipe σ2 vs=wipe σ vs∧tt σ2 H2 λb H3 =>
    if b=true then te σ2 H3 λy H4=>∃acc,H4 D=some (.lst acc)∧acc.length < sizeLine∧Nx (upd H4 D (.lst (acc++[y]))) else Nx H3) :=
 zo6 (J:=Itr lo n) (List.range n) F (by rw[List.length_range];exact hz) (λi H' hi _=>by rw[List.length_range] at hi;exact hi) (λH' _=>by rw[List.length_range];exact Nat.le_refl _)
  (λi x y H1 H' hy s1 hq=>by
   obtain⟨e,hx⟩:=hq
   subst e hx
   have hi:i < n:=by have:=(List.getElem?_eq_some_iff.mp hy).1;rwa[List.length_range] at this
   have ey:y=i:=by
    rw[List.getElem?_range hi] at hy
    exact(Option.some.inj hy).symm
   subst ey
   exact⟨Same.refl _,λR hR=>step y hi _ s1 R hR⟩) fin
theorem zr4 {β:Type} {K:PySem.W.Frag} {a b:Addr} {xs zs:List V} {g:TG} {tt:TT} {te:TE} {vs:List Nat} {σ:L2.St} {H:Hp} {Q:Addr→Hp→Prop} (ys:List β) (F:β→Option V) (hS:SqL K H a xs) (hS2:SqL K H b zs) (hl:ys.length=min xs.length zs.length) (hz:ys.length≤sizeLine)
  (step:∀(i:Nat) (x z:V) (y:β) (T:Addr),xs[i]?=some x→zs[i]?=some z→ys[i]?=some y→∀H',Same H H'→H' T=some (.tup [x,z])→∀R:Option V→Hp→Prop,(∀H'',Same H' H''→R (F y) H'')→LcTurn g tt te vs σ (.ref T) H' R)
  (fin:∀H' D,Same H H'→H D=none→H' D=some (.lst (ys.filterMap F))→Q D H') :
  ∀D,H D=none→∃W:Nat→Nat→Hp→Prop,(∃m,W 0 m (upd H D (.lst [])))∧∀i m H,W i m H→
   ((
    Itz K a b).stop i H∧Q D H)∨((Itz K a b).go i H∧∃Nx:Hp→Prop,(∀H',Nx H'→∃m',m' < m∧W (i+1) m' H')∧∀x H',(Itz K a b).yld i H x H'→g x (wipe σ vs) H' λσ2 H2=>wipe σ2 vs=wipe σ vs∧tt σ2 H2 λb H3 =>
    if b=true then te σ2 H3 λy H4=>∃acc,H4 D=some (.lst acc)∧acc.length < sizeLine∧Nx (upd H4 D (.lst (acc++[y]))) else Nx H3) :=
 zo6 (J:=Itz K a b) ys F hz (λi H' hi s1=>⟨xs,zs,xs[i]'(by omega),zs[i]'(by omega),s1.seq hS,s1.seq hS2,List.getElem?_eq_getElem _,List.getElem?_eq_getElem _⟩) (λH' s1=>⟨xs,zs,s1.seq hS,s1.seq hS2,by omega⟩)
  (λi x y H1 H' hy s1 hq=>by
   obtain⟨T,x',z',rfl,hT,rfl,h1,h2⟩:=hq
   exact⟨za8 hT,λR hR=>step i x' z' y T (h1 xs (s1.seq hS)) (h2 zs (s1.seq hS2)) hy _ (Same.trans s1 (za8 hT)) za1 R hR⟩) fin
end Pd
end
section
namespace Pd
open PySem PySem.Spec PyProof.Rows L2
open Vbpoan (State Point Old Retired codesOf loadsOf)
def keysN (l:List Nat):List Key:=l.map λ(c:Nat)=>Sum.inl (c:Int)
def KeysAre (kvs:List (Key×V)) (l:List Nat):Prop:=kvs.map (·.1)=keysN l
theorem zmr:KeysAre [] []:=by unfold KeysAre keysN;rfl
theorem zkO {l:List Nat} {c:Nat}:(Sum.inl (c:Int):Key)∈keysN l↔c∈l:=by
 unfold keysN
 rw[List.mem_map]
 constructor
 ·rintro ⟨x,hx,e⟩
  have e:=Sum.inl.inj e
  have:x=c:=by omega
  rw[←this];exact hx
 ·intro h;exact⟨c,h,rfl⟩
theorem KeysAre.val {kvs:List (Key×V)} {l:List Nat} (h:KeysAre kvs l) (c:Nat):(valV kvs (Sum.inl (c:Int))).isSome=true↔c∈l:=by
 rw[←zkO,←h]
 cases e:valV kvs (Sum.inl (c:Int)) with
 | none=>simp only[Option.isSome_none,Bool.false_eq_true,false_iff];exact zp4 e
 | some v=>simp only[Option.isSome_some,true_iff];exact zq9 e
theorem zjN {κ:Type} [DecidableEq κ] {kvs:List (κ×V)} {k:κ} (v:V) (h:k∈kvs.map (·.1)):(putK kvs k v).map (·.1)=kvs.map (·.1):=by
 have ha:(kvs.any λkv=>decide (kv.1=k))=true:=by
  obtain⟨p,hp,e⟩:=List.mem_map.mp h
  exact List.any_eq_true.mpr ⟨p,hp,decide_eq_true e⟩
 unfold putK
 rw[if_pos ha,List.map_map]
 apply List.map_congr_left
 intro p _
 show (if p.1=k then (p.1,v) else p).1=p.1
 split<;>rfl
theorem KeysAre.put {kvs:List (Key×V)} {l:List Nat} (h:KeysAre kvs l) (c:Nat) (v:V):KeysAre (putK kvs (Sum.inl (c:Int)) v) (if c∈l then l else l++[c]):=by
 by_cases m:c∈l
 ·rw[if_pos m]
  show (putK kvs _ v).map _=_
  rw[zjN v (by rw[h];exact zkO.mpr m)]
  exact h
 ·rw[if_neg m]
  have e:valV kvs (Sum.inl (c:Int))=none:=by
   cases q:valV kvs (Sum.inl (c:Int)) with
   | none=>rfl
   | some v=>exact absurd ((h.val c).mp (by rw[q];rfl)) m
  show (putK kvs _ v).map _=_
  rw[zph v e,List.map_append,h]
  unfold keysN
  rw[List.map_append]
  rfl
theorem KeysAre.len {kvs:List (Key×V)} {l:List Nat} (h:KeysAre kvs l):kvs.length=l.length:=by
 have:=congrArg List.length h
 unfold keysN at this
 simpa using this
theorem KeysAre.vals {kvs:List (Key×V)} {l:List Nat} (h:KeysAre kvs l):(kvs.map λkv=>kV kv.1)=natL l:=by
 have e:(kvs.map λkv=>kV kv.1)=(kvs.map (·.1)).map kV:=by rw[List.map_map];rfl
 rw[e,h]
 unfold keysN natL
 rw[List.map_map]
 rfl
theorem zgF {ts:List Addr} {i:Nat} {x:V} (h:(ts.map V.ref)[i]?=some x):∃t,ts[i]?=some t∧x=.ref t:=by
 rw[List.getElem?_map] at h
 cases e:ts[i]? with
 | none=>rw[e] at h;cases h
 | some t=>rw[e] at h;exact⟨t,rfl,(Option.some.inj h).symm⟩
theorem zgL {l:List Nat} {i:Nat} {x:V} (h:(natL l)[i]?=some x):∃n,l[i]?=some n∧x=nat n:=by
 rw[List.getElem?_map] at h
 cases e:l[i]? with
 | none=>rw[e] at h;cases h
 | some t=>rw[e] at h;exact⟨t,rfl,(Option.some.inj h).symm⟩
theorem pt_at {as:List (Addr×Addr)} {i:Nat} {x:V} (h:(as.map λx=>V.ref x.1)[i]?=some x):∃a,as[i]?=some a∧x=.ref a.1:=by
 rw[List.getElem?_map] at h
 cases e:as[i]? with
 | none=>rw[e] at h;cases h
 | some t=>rw[e] at h;exact⟨t,rfl,(Option.some.inj h).symm⟩
theorem zkL {a b:Nat} (h:(!decide (nat a=nat b))=true):a≠b:=λe=>by subst e;simp at h
theorem zkM {a b:Nat} (h:¬ (!decide (nat a=nat b))=true):a=b:=by
 simp at h
 omega
theorem zaQ {a b:Nat}:decide (nat a=nat b)=true↔a=b:=by
 rw[decide_eq_true_eq]
 constructor
 ·intro h;injection h with h;omega
 ·intro h;rw[h]
section
variable {P:Program} {w:World} {K:PySem.W.Frag} {mg:Str→Option Value} {base:Heap} {Ad:Adr}
def zei:Stmt:=top 4
theorem zeL:FnScope ["points","found","point"] ["points"] (defScope zei):=⟨rfl,rfl,rfl,by decide +kernel,rfl,by decide +kernel,by decide +kernel⟩
def zbM (CP:Addr):Sp:=λvs H Q _=>∃pl as pts,vs=[.ref pl]∧PtsAt CP H pl as pts∧pts.length≤40∧
 ∀H' l,Same H H'→H l=none→H' l=some (.lst (natL (codesD (pts.map (·.code)))))→Q (.ref l) H'
theorem zlC (D:DefIn K mg "codes_of" zei ["points"]) (T:Txt K mg Ad):Callable P w K mg base 1 "codes_of" ["points"] (zbM Ad.CP):=by
 refine D.ok (k:=0) zeL (λvs H Q E h=>?_) (λf cdv A outer s H vs Q E hr h=>?_)
 ·obtain⟨pl,as,pts,rfl,_⟩:=h;rfl
 ·obtain⟨pl,as,pts,rfl,hp,h40,k⟩:=h
  have hl:=hp.len
  refine⟨_,(za2 (zah (i:=1) zeL.nd rfl (by first|exact Or.inl rfl|exact Or.inr rfl) zjz)
   (za2 (zbB ownP rfl (zaE (pv 0)) (zaj (i:=2) zeL.nd rfl (by first|exact Or.inl rfl|exact Or.inr rfl)) (za5 (ps_if (zaf op_ne (zab (pv 2) rfl) (zaq rfl T.zc2) (nomark _)) (za5 (zeO (hu_of hr) (pv 1) (zab (pv 2) rfl) pe_bl rfl)) zag)))
   (za5 (zac (zkx (znj rfl) rfl T.zq3 znq (za0 (pv 1) za4)))))),?_⟩
  intro d hd
  refine⟨_,rfl,pl,rfl,⟨_,SqL.of (za8 hd _ _ hp.lst)⟩,zb0 (K:=K) (a:=pl) (xs:=as.map λx=>V.ref x.1)
   (λi σ H'=>∃v kvs,σ=[some (.ref pl),some (.ref d),v]∧Same H H'∧H' d=some (.dK kvs)∧KeysAre kvs (codesD ((pts.map λp:Point=>p.code).take i)))
   ⟨none,[],rfl,za8 hd,za1,zmr⟩ (λi σ H' _ ⟨_,_,_,s1,_⟩=>SqL.of (s1 _ _ hp.lst)) ?_ ?_⟩
  ·rintro i y σ H' hi ⟨v,kvs,rfl,s1,hd1,hk⟩
   rw[List.getElem?_map] at hi
   cases ea:as[i]? with
   | none=>rw[ea] at hi;cases hi
   | some x =>
    rw[ea] at hi
    have hi:=Option.some.inj hi
    subst hi
    obtain⟨p,ep,dx,fs,e,F⟩:=Paired.get1 hp.pt ea
    have e1:=s1 _ _ e
    have et:(pts.map λp:Point=>p.code).take (i+1)=(pts.map λp:Point=>p.code).take i++[p.code]:=zau (by rw[List.getElem?_map,ep];rfl)
    refine⟨_,rfl,x.1,Ad.CP,dx,fs,_,rfl,e1,T.clCP,T.zb2,F.code,rfl,_,rfl,ite2 (λhc=>?_) (λhc=>?_)⟩
    ·have hc:=zkL (b:=0) hc
     have hlen:kvs.length < sizeLine:=by
      have h1:=hk.len
      have h2:=zcH ((pts.map λp:Point=>p.code).take i)
      rw[List.length_take,List.length_map] at h2
      have h3:sizeLine=16777216:=sizeLine_eq
      omega
     refine⟨_,rfl,_,rfl,x.1,Ad.CP,dx,fs,_,rfl,e1,T.clCP,T.zb2,F.code,d,_,rfl,DPut.k (k:=Sum.inl (p.code:Int)) hd1 hlen,?_⟩
     refine⟨_,_,rfl,λb o eb=>?_,za1,?_⟩
     ·rw[za6 (za7 eb hd)];exact s1 _ _ eb
     ·rw[et,zic]
      have:=hk.put p.code (.bl true)
      unfold addC
      by_cases m:p.code∈codesD ((pts.map λp:Point=>p.code).take i)
      ·rw[if_pos m] at this;rw[if_pos (.inr m)];exact this
      ·rw[if_neg m] at this;rw[if_neg (λz=>z.elim hc m)];exact this
    ·have hc:=zkM (b:=0) hc
     refine⟨_,kvs,rfl,s1,hd1,?_⟩
     rw[et,zic,zmG (.inl hc)]
     exact hk
  ·rintro σ H' ⟨v,kvs,rfl,s1,hd1,hk⟩
   rw[List.length_map,hl,←List.length_map (f:=λp:Point=>p.code),List.take_length] at hk
   refine⟨_,rfl,d,kvs,rfl,hd1,λl hn=>?_⟩
   refine k _ l (Same.trans s1 (za8 hn)) (s1.free hn) ?_
   rw[za1,hk.vals]
def zbp:Stmt:=top 5
theorem zfl:FnScope ["town","day"] ["town","day"] (defScope zbp):=⟨rfl,rfl,rfl,by decide +kernel,rfl,by decide +kernel,by decide +kernel⟩
def zbR (CT:Addr):Sp:=λvs H Q _=>∃t pl rl s,∃d:Nat,vs=[.ref t,nat d]∧TwAt CT H t pl rl s∧Q (.bl (decide (s.day≤d+s.grace))) H
theorem zfx (D:DefIn K mg "is_within_grace" zbp ["town","day"]) (T:Txt K mg Ad):Callable P w K mg base 1 "is_within_grace" ["town","day"] (zbR Ad.CT):=by
 refine D.ok (k:=0) zfl (λvs H Q E h=>?_) (λf cdv A outer s H vs Q E hr h=>?_)
 ·obtain⟨t,pl,rl,s,d,rfl,_⟩:=h;rfl
 ·obtain⟨t,pl,rl,st,d,rfl,⟨dx,fs,e,F⟩,k⟩:=h
  refine⟨_,(za5 (zac (zfW op_le (pe_op zgK (zab (pv 0) rfl) (pv 1)) (zab (pv 0) rfl) (nomark _)))),?_⟩
  refine⟨_,rfl,t,Ad.CT,dx,fs,_,rfl,e,T.clCT,T.t_day,F.day,_,rfl,_,_,rfl,rfl,_,rfl,t,Ad.CT,dx,fs,_,rfl,e,T.clCT,T.zln,F.grace,_,_,rfl,rfl,?_⟩
  have e2:decide (((st.day:Int) - (d:Int))≤(st.grace:Int))=decide (st.day≤d+st.grace):=by
   rw[decide_eq_decide];omega
  show Q (.bl (decide (((st.day:Int) - (d:Int))≤(st.grace:Int)))) H
  rw[e2]
  exact k
def zaW:Stmt:=top 6
theorem zaN:FnScope ["town","point","code","since","until"] ["town","point"] (defScope zaW):=⟨rfl,rfl,rfl,by decide +kernel,rfl,by decide +kernel,by decide +kernel⟩
theorem zdV:BlkOk ["town","point","code","since","until"] (defScope zaW) { kind:=.function,names:=[(PySem.Str.ofString ".0",.local),(PySem.Str.ofString "code",.local),(PySem.Str.ofString "since",.local),(PySem.Str.ofString "until",.local),(PySem.Str.ofString "is_within_grace",.globalImplicit),(PySem.Str.ofString "town",.free)],isGenerator:=false,isCoroutine:=false,more:=[] } [("code",2),("since",3),("until",4)]:=⟨rfl,by decide +kernel,by decide +kernel,by decide +kernel,by decide +kernel⟩
def zbL (CP CT:Addr):Sp:=λvs H Q _=>∃t pl rl s a h p,vs=[.ref t,.ref a]∧TwAt CT H t pl rl s∧PtAt CP H a h p∧RowsAt H h (p.olds.map oldV)∧p.olds.length≤1000∧
 ∀H' l,Same H H'→H l=none→H' l=some (.lst (natL (stillRead s p)))→Q (.ref l) H'
theorem zeR (D:DefIn K mg "codes_still_read" zaW ["town","point"]) (T:Txt K mg Ad) (zaL:Callable P w K mg base 1 "is_within_grace" ["town","day"] (zbR Ad.CT)) :
  Callable P w K mg base 2 "codes_still_read" ["town","point"] (zbL Ad.CP Ad.CT):=by
 refine D.ok (k:=1) zaN (λvs H Q E h=>?_) (λf cdv A outer s H vs Q E hr h=>?_)
 ·obtain⟨t,pl,rl,s,a,h,p,rfl,_⟩:=h;rfl
 ·obtain⟨t,pl,rl,st,a,hh,p,rfl,tw,⟨dx,fs,e,F⟩,⟨ts,hts,tps⟩,hlen,k⟩:=h
  have htl:ts.length=(p.olds.map oldV).length:=Paired.length tps
  refine⟨_,(za5 (zac (pe_lc rfl zaN.nd (zaE (zab (pv 1) rfl)) zdV (λ_ _ _ _ _=>by exact(zls (K:=K) (n:=3) rfl rfl (zax (zaj (i:=2) zaN.nd rfl (by first|exact Or.inl rfl|exact Or.inr rfl)) (zax (zaj (i:=3) zaN.nd rfl (by first|exact Or.inl rfl|exact Or.inr rfl)) (zax (zaj (i:=4) zaN.nd rfl (by first|exact Or.inl rfl|exact Or.inr rfl)) zde))))) (λ_ _ _ _ _=>by exact zeN (zgH (pe_fn zaL (hr.mono (by decide)) rfl passN (za0 (pv 0) (za0 (pv 4) za4))))) (λ_ _ _ _ _=>by exact(pv 2))))),?_⟩
  have hz:(ts.map V.ref).length≤sizeLine:=by
   rw[List.length_map,htl,List.length_map]
   exact Nat.le_trans hlen (by decide)
  refine⟨_,rfl,a,Ad.CP,dx,fs,_,rfl,e,T.clCP,T.p_had,F.had,hh,rfl,⟨_,SqL.of hts⟩,ze5 (K:=K) (a:=hh) (xs:=ts.map V.ref) p.olds (λo=>if readsB st o=true then some (nat o.code) else none) (SqL.of hts) (by rw[List.length_map,htl,List.length_map]) (Nat.le_trans hlen (by decide)) ?_ ?_⟩
  ·intro i x o hx ho H' s1 R hR
   obtain⟨tt,e1,rfl⟩:=zgF hx
   obtain⟨xs,e2,e3⟩:=Paired.get1 tps e1
   rw[List.getElem?_map,ho] at e2
   have e2:=Option.some.inj e2
   subst e2
   have e4:=s1 _ _ e3
   refine⟨tt,oldV o,rfl,SqT.of e4,rfl,_,_,rfl,_,_,rfl,_,_,rfl,rfl,rfl,?_⟩
   refine⟨_,rfl,_,rfl,t,pl,rl,st,o.until_,rfl,tw.same s1,_,rfl,?_⟩
   have hR:=hR H' (Same.refl _)
   unfold readsB at hR
   refine ite2 (λhc=>?_) (λhc=>?_)
   ·rw[if_pos hc] at hR
    exact⟨_,rfl,hR⟩
   ·rw[if_neg hc] at hR
    exact hR
  ·intro H' D s1 hn hD
   refine k H' D s1 hn ?_
   rw[hD,fm_if]
   unfold stillRead natL
   rw[List.map_map]
   rfl
def zbE:Stmt:=top 7
theorem zaC:FnScope ["town","withheld","code","point","day"] ["town"] (defScope zbE):=⟨rfl,rfl,rfl,by decide +kernel,rfl,by decide +kernel,by decide +kernel⟩
def HeldAt (H:Hp) (d:Addr) (s:State):Prop:=∃kvs l,H d=some (.dK kvs)∧KeysAre kvs l∧∀c,c∈l↔Held s c
def zc5 (CP CT:Addr):Sp:=λvs H Q _=>∃t L s n,vs=[.ref t]∧TownAt CP CT H t L s∧Good n s∧n≤401∧∀H' d,Same H H'→H d=none→HeldAt H' d s→Q (.ref d) H'
def putAll (l:List Nat) (cs:List Nat):List Nat:=cs.foldl (λl c=>if c∈l then l else l++[c]) l
theorem putAll_snoc (l cs:List Nat) (c:Nat):putAll l (cs++[c])=if c∈putAll l cs then putAll l cs else putAll l cs++[c]:=by unfold putAll;rw[List.foldl_append];rfl
theorem zg3 {cs:List Nat}:∀{l:List Nat} {c:Nat},c∈putAll l cs↔c∈l∨c∈cs:=by
 induction cs with
 | nil=>intro l c;unfold putAll;simp
 | cons a cs ih =>
  intro l c
  show c∈putAll (if a∈l then l else l++[a]) cs↔_
  rw[ih]
  by_cases m:a∈l
  ·rw[if_pos m,List.mem_cons]
   constructor
   ·rintro (z|z);exact .inl z;exact .inr (.inr z)
   ·rintro (z|z|z)
    ·exact .inl z
    ·rw[z];exact .inl m
    ·exact .inr z
  ·rw[if_neg m,List.mem_append,List.mem_singleton,List.mem_cons]
   constructor
   ·rintro ((z|z)|z);exact .inl z;exact .inr (.inl z);exact .inr (.inr z)
   ·rintro (z|z|z);exact .inl (.inl z);exact .inl (.inr z);exact .inr z
theorem zbb (cs:List Nat):∀l:List Nat,(putAll l cs).length≤l.length+cs.length:=by
 induction cs with
 | nil=>intro l;exact Nat.le_refl _
 | cons a cs ih =>
  intro l
  have h:=ih (if a∈l then l else l++[a])
  have h2:(if a∈l then l else l++[a]).length≤l.length+1:=by split<;>simp
  show (putAll _ cs).length≤_
  simp only[List.length_cons]
  omega
def readAll (s:State):List Point→List Nat
 | []=>[]
 | p::r=>stillRead s p++readAll s r
theorem zgG (s:State) (p:Point):∀l:List Point,readAll s (l++[p])=readAll s l++stillRead s p
 | []=>by simp[readAll]
 | a::l=>by show stillRead s a++readAll s (l++[p])=_;rw[zgG s p l,←List.append_assoc];rfl
theorem zhO {s:State} {c:Nat}:∀{l:List Point},c∈readAll s l↔∃p∈l,c∈stillRead s p
 | []=>by simp[readAll]
 | a::l=>by
  show c∈stillRead s a++readAll s l↔_
  rw[List.mem_append,zhO]
  constructor
  ·rintro (z|⟨p,hp,z⟩)
   ·exact⟨a,List.mem_cons_self,z⟩
   ·exact⟨p,List.mem_cons_of_mem _ hp,z⟩
  ·rintro ⟨p,hp,z⟩
   rcases List.mem_cons.mp hp with e|e
   ·rw[←e];exact .inl z
   ·exact .inr ⟨p,e,z⟩
def retCodes (s:State) (l:List Retired):List Nat:=(l.filter (retB s)).map (·.code)
theorem zdc {s:State} {n:Nat}:∀{l:List Point},(∀p∈l,p.olds.length≤n)→(readAll s l).length≤n * l.length
 | [],_=>Nat.zero_le _
 | a::l,h=>by
  have h1:(stillRead s a).length≤n:=by unfold stillRead;rw[List.length_map];exact Nat.le_trans (List.length_filter_le _ _) (h a List.mem_cons_self)
  have h2:=zdc (s:=s) (l:=l) λp hp=>h p (List.mem_cons_of_mem _ hp)
  show (stillRead s a++readAll s l).length≤_
  rw[List.length_append,List.length_cons,Nat.mul_succ]
  omega
theorem zpF {s:State} {c:Nat}:c∈putAll (putAll (putAll [] (codesD (codesOf s))) (readAll s s.points)) (retCodes s s.retired)↔Held s c:=by
 rw[zg3,zg3,zg3,zel,zhO]
 unfold Held retCodes
 rw[List.mem_map]
 constructor
 ·rintro (((z|z)|z)|⟨r,hr,z⟩)
  ·cases z
  ·exact .inl z
  ·exact .inr (.inl z)
  ·exact .inr (.inr ⟨r,(List.mem_filter.mp hr).1,(List.mem_filter.mp hr).2,z⟩)
 ·rintro (z|z|⟨r,h1,h2,h3⟩)
  ·exact .inl (.inl (.inr z))
  ·exact .inl (.inr z)
  ·exact .inr ⟨r,List.mem_filter.mpr ⟨h1,h2⟩,h3⟩
def DictN (H:Hp) (d:Addr) (l:List Nat):Prop:=∃kvs,H d=some (.dK kvs)∧KeysAre kvs l
theorem DictN.put {H:Hp} {d:Addr} {l:List Nat} (x:DictN H d l) (c:Nat) (hl:l.length < sizeLine):∃H',DPut H d (nat c) (.bl true) H'∧DictN H' d (if c∈l then l else l++[c])∧Kept [d] H H':=by
 obtain⟨kvs,hd,hk⟩:=x
 exact⟨_,DPut.k (k:=Sum.inl (c:Int)) hd (by rw[hk.len];exact hl),⟨_,za1,hk.put c (.bl true)⟩,zaG⟩
theorem DictN.same {H H':Hp} {d:Addr} {l:List Nat} (x:DictN H d l) (s:Same H H'):DictN H' d l :=
 let ⟨kvs,hd,hk⟩:=x;⟨kvs,s _ _ hd,hk⟩
theorem zfX (D:DefIn K mg "withheld_codes" zbE ["town"]) (T:Txt K mg Ad) (zav:Callable P w K mg base 1 "codes_of" ["points"] (zbM Ad.CP))
  (zaI:Callable P w K mg base 2 "codes_still_read" ["town","point"] (zbL Ad.CP Ad.CT)) (zaL:Callable P w K mg base 1 "is_within_grace" ["town","day"] (zbR Ad.CT)) :
  Callable P w K mg base 3 "withheld_codes" ["town"] (zc5 Ad.CP Ad.CT):=by
 refine D.ok (k:=2) zaC (λvs H Q E h=>?_) (λf cdv A outer s H vs Q E hr h=>?_)
 ·obtain⟨t,L,s,n,rfl,_⟩:=h;rfl
 ·obtain⟨t,L,st,n,rfl,tw,G,hn,k⟩:=h
  have line:sizeLine=16777216:=sizeLine_eq
  obtain⟨dt,fs,et,F⟩:=tw.tw
  have hlp:=tw.pts.len
  refine⟨_,(za2 (zah (i:=1) zaC.nd rfl (by first|exact Or.inl rfl|exact Or.inr rfl) zjz)
   (za2 (zbB ownP rfl (zaE (pe_fn zav (hr.mono (by decide)) rfl passN (za0 (zab (pv 0) rfl) za4))) (zaj (i:=2) zaC.nd rfl (by first|exact Or.inl rfl|exact Or.inr rfl)) (za5 (zeO (hu_of hr) (pv 1) (pv 2) pe_bl rfl)))
   (za2 (zbB ownP rfl (zaE (zab (pv 0) rfl)) (zaj (i:=3) zaC.nd rfl (by first|exact Or.inl rfl|exact Or.inr rfl)) (za5 (zbB ownP rfl (zaE (pe_fn zaI (hr.mono (by decide)) rfl passN (za0 (pv 0) (za0 (pv 3) za4)))) (zaj (i:=2) zaC.nd rfl (by first|exact Or.inl rfl|exact Or.inr rfl)) (za5 (zeO (hu_of hr) (pv 1) (pv 2) pe_bl rfl)))))
   (za2 (zbB ownP rfl (zaE (zab (pv 0) rfl)) (zgJ (n:=2) rfl (zax (zaj (i:=2) zaC.nd rfl (by first|exact Or.inl rfl|exact Or.inr rfl)) (zax (zaj (i:=4) zaC.nd rfl (by first|exact Or.inl rfl|exact Or.inr rfl)) zde))) (za5 (ps_if (zgH (pe_fn zaL (hr.mono (by decide)) rfl passN (za0 (pv 0) (za0 (pv 4) za4)))) (za5 (zeO (hu_of hr) (pv 1) (pv 2) pe_bl rfl)) zag)))
   (za5 (zac (pv 1))))))),?_⟩
  intro d hd
  have s0:Same H (upd H d (.dK [])):=za8 hd
  refine⟨_,rfl,t,Ad.CT,dt,fs,_,rfl,s0 _ _ et,T.clCT,T.zap,F.points,L.pl,L.ps,st.points,rfl,tw.pts.same s0,G.len,λH1 l s1 n1 hl=>?_⟩
  have sH1:Same H H1:=Same.trans s0 s1
  have hd1:DictN H1 d []:=⟨[],s1 _ _ za1,zmr⟩
  have nld:l≠d:=λz=>by rw[z,za1] at n1;cases n1
  have hcl:(codesD (codesOf st)).length≤40:=by
   have:=zcH (codesOf st)
   rw[zbg] at this
   have:=G.len
   omega
  refine⟨l,rfl,⟨_,SqL.of hl⟩,zb0 (K:=K) (a:=l) (xs:=natL (codesD (codesOf st)))
   (λi σ H'=>∃v,σ=[some (.ref t),some (.ref d),v,none,none]∧Kept [d] H1 H'∧DictN H' d (putAll [] ((codesD (codesOf st)).take i)))
   ⟨none,rfl,Same.kept _ (Same.refl _),hd1⟩ (λi σ H' _ ⟨_,_,k1,_⟩=>SqL.of (k1 _ _ hl (by simpa using nld))) ?_ ?_⟩
  ·rintro i y σ H' hi ⟨v,rfl,k1,dn⟩
   obtain⟨c,hc,rfl⟩:=zgL hi
   obtain⟨H2,dp,dn2,k2⟩:=dn.put c (by
    have:=zbb ((codesD (codesOf st)).take i) []
    rw[List.length_take,List.length_nil] at this
    omega)
   refine⟨_,rfl,_,rfl,d,H2,rfl,dp,_,rfl,Kept.comp k1 k2,?_⟩
   rw[zau hc,putAll_snoc]
   exact dn2
  ·rintro σ H2 ⟨v,rfl,k1,dn⟩
   rw[List.length_map,List.take_length] at dn
   have sH2:Same H H2:=zcP sH1 k1 (by simpa using hd)
   have tw2:=tw.same sH2
   refine⟨_,rfl,t,Ad.CT,dt,fs,_,rfl,sH2 _ _ et,T.clCT,T.zap,F.points,L.pl,rfl,⟨_,SqL.of tw2.pts.lst⟩,zb0 (K:=K) (a:=L.pl) (xs:=L.ps.map λx=>V.ref x.1)
    (λi σ H'=>∃v u,σ=[some (.ref t),some (.ref d),v,u,none]∧Kept [d] H2 H'∧DictN H' d (putAll (putAll [] (codesD (codesOf st))) (readAll st (st.points.take i))))
    ⟨v,none,rfl,Same.kept _ (Same.refl _),dn⟩ (λi σ H' _ ⟨_,_,_,k2,_⟩=>SqL.of ((tw.same (zcP sH2 k2 (by simpa using hd))).pts.lst)) ?_ ?_⟩
   ·rintro i y σ H' hi ⟨v,u,rfl,k2,dn⟩
    obtain⟨x,hx,rfl⟩:=pt_at hi
    obtain⟨p,hp,pa⟩:=Paired.get1 tw.pts.pt hx
    obtain⟨p',hp',ph⟩:=Paired.get1 tw.had hx
    rw[hp] at hp'
    cases hp'
    have sH':Same H H':=zcP sH2 k2 (by simpa using hd)
    have hpm:p∈st.points:=List.mem_of_getElem? hp
    have hol:=G.old p hpm
    refine⟨_,rfl,_,rfl,t,L.pl,L.rl,st,x.1,x.2,p,rfl,tw.tw.same sH',pa.same sH',ph.same sH',by omega,λH3 l2 s3 n3 hl2=>?_⟩
    have nl2d:l2≠d:=λz=>by rw[z] at n3;obtain⟨kvs,e,_⟩:=dn;rw[e] at n3;cases n3
    have hsr:(stillRead st p).length≤n:=by unfold stillRead;rw[List.length_map];exact Nat.le_trans (List.length_filter_le _ _) hol
    refine⟨l2,rfl,⟨_,SqL.of hl2⟩,zb0 (K:=K) (a:=l2) (xs:=natL (stillRead st p))
     (λj σ H''=>∃v,σ=[some (.ref t),some (.ref d),v,some (.ref x.1),none]∧Kept [d] H3 H''∧DictN H'' d (putAll (putAll (putAll [] (codesD (codesOf st))) (readAll st (st.points.take i))) ((stillRead st p).take j)))
     ⟨v,rfl,Same.kept _ (Same.refl _),dn.same s3⟩ (λj σ H'' _ ⟨_,_,k3,_⟩=>SqL.of (k3 _ _ hl2 (by simpa using nl2d))) ?_ ?_⟩
    ·rintro j y σ H'' hj ⟨v,rfl,k3,dn3⟩
     obtain⟨c,hc,rfl⟩:=zgL hj
     obtain⟨H4,dp,dn4,k4⟩:=dn3.put c (by
      have h1:=zbb ((stillRead st p).take j) (putAll (putAll [] (codesD (codesOf st))) (readAll st (st.points.take i)))
      have h2:=zbb (readAll st (st.points.take i)) (putAll [] (codesD (codesOf st)))
      have h3:=zbb (codesD (codesOf st)) []
      have h4:=zdc (s:=st) (n:=n) (l:=st.points.take i) λq hq=>G.old q (List.mem_of_mem_take hq)
      have h5:n * (st.points.take i).length≤401 * 40:=Nat.mul_le_mul hn (by rw[List.length_take];have:=G.len;omega)
      rw[List.length_take] at h1
      rw[List.length_nil] at h3
      omega)
     refine⟨_,rfl,_,rfl,d,H4,rfl,dp,_,rfl,Kept.comp k3 k4,?_⟩
     rw[zau hc,putAll_snoc]
     exact dn4
    ·rintro σ H4 ⟨v,rfl,k3,dn4⟩
     rw[List.length_map,List.take_length] at dn4
     refine⟨_,_,rfl,Kept.comp (Kept.comp k2 (Same.kept _ s3)) k3,?_⟩
     rw[zau hp,zgG]
     have e:putAll (putAll [] (codesD (codesOf st))) (readAll st (st.points.take i)++stillRead st p)=putAll (putAll (putAll [] (codesD (codesOf st))) (readAll st (st.points.take i))) (stillRead st p):=by
      unfold putAll;rw[List.foldl_append]
     rw[e]
     exact dn4
   ·rintro σ H3 ⟨v,u,rfl,k2,dn⟩
    rw[List.length_map,hlp,List.take_length] at dn
    have sH3:Same H H3:=zcP sH2 k2 (by simpa using hd)
    obtain⟨ts,hts,tps⟩:=tw.ret
    have htl:ts.length=(st.retired.map retV).length:=Paired.length tps
    refine⟨_,rfl,t,Ad.CT,dt,fs,_,rfl,sH3 _ _ et,T.clCT,T.zdl,F.retired,L.rl,rfl,⟨_,SqL.of (sH3 _ _ hts)⟩,zb0 (K:=K) (a:=L.rl) (xs:=ts.map V.ref)
     (λi σ H'=>∃v u z,σ=[some (.ref t),some (.ref d),v,u,z]∧Kept [d] H3 H'∧DictN H' d (putAll (putAll (putAll [] (codesD (codesOf st))) (readAll st st.points)) (retCodes st (st.retired.take i))))
     ⟨v,u,none,rfl,Same.kept _ (Same.refl _),dn⟩ (λi σ H' _ ⟨_,_,_,_,k3,_⟩=>SqL.of (zcP sH3 k3 (by simpa using hd) _ _ hts)) ?_ ?_⟩
    ·rintro i y σ H' hi ⟨v,u,z,rfl,k3,dn⟩
     obtain⟨tt,e1,rfl⟩:=zgF hi
     obtain⟨xs,e2,e3⟩:=Paired.get1 tps e1
     rw[List.getElem?_map] at e2
     cases er:st.retired[i]? with
     | none=>rw[er] at e2;cases e2
     | some r =>
      rw[er] at e2
      have e2:=Option.some.inj e2
      subst e2
      have sH':Same H H':=zcP sH3 k3 (by simpa using hd)
      refine⟨tt,retV r,rfl,SqT.of (sH' _ _ e3),rfl,_,_,rfl,_,_,rfl,rfl,?_⟩
      have eR:retCodes st (st.retired.take (i+1))=retCodes st (st.retired.take i)++(if retB st r=true then [r.code] else []):=by
       unfold retCodes
       rw[zau er,List.filter_append,List.map_append,List.filter_cons]
       split<;>rfl
      refine⟨_,rfl,_,rfl,t,L.pl,L.rl,st,r.day,rfl,tw.tw.same sH',_,rfl,ite2 (λhc=>?_) (λhc=>?_)⟩
      ·obtain⟨H4,dp,dn4,k4⟩:=dn.put r.code (by
        have h0:=zbb (retCodes st (st.retired.take i)) (putAll (putAll [] (codesD (codesOf st))) (readAll st st.points))
        have h2:=zbb (readAll st st.points) (putAll [] (codesD (codesOf st)))
        have h3:=zbb (codesD (codesOf st)) []
        have h4:=zdc (s:=st) (n:=n) (l:=st.points) λq hq=>G.old q hq
        have h5:n * st.points.length≤401 * 40:=Nat.mul_le_mul hn G.len
        have h6:(retCodes st (st.retired.take i)).length≤st.retired.length:=by
         unfold retCodes
         rw[List.length_map]
         refine Nat.le_trans (List.length_filter_le _ _) ?_
         rw[List.length_take];omega
        have h7:=G.ret
        rw[List.length_nil] at h3
        omega)
       refine⟨_,rfl,_,rfl,d,H4,rfl,dp,_,_,_,rfl,Kept.comp k3 k4,?_⟩
       rw[eR,if_pos (show retB st r=true from hc),putAll_snoc]
       exact dn4
      ·refine⟨_,_,_,rfl,k3,?_⟩
       rw[eR,if_neg (show ¬ retB st r=true from hc),List.append_nil]
       exact dn
    ·rintro σ H4 ⟨v,u,z,rfl,k3,kvs,hd4,hk⟩
     have hl2:(ts.map V.ref).length=st.retired.length:=by rw[List.length_map,htl,List.length_map]
     rw[hl2,List.take_length] at hk
     refine⟨_,rfl,k H4 d (zcP sH3 k3 (by simpa using hd)) hd ⟨kvs,_,hd4,hk,λc=>zpF⟩⟩
end
end Pd
end
section
namespace Pd
open PySem PySem.Spec PyProof.Rows L2
open Vbpoan (State Point Old Retired codesOf loadsOf isFree)
theorem zoi (l:List Nat) (c:Nat):inV (nat c) (natL l)=l.contains c:=by
 unfold inV natL
 rw[List.any_map,Bool.eq_iff_iff,List.any_eq_true,List.contains_iff_mem]
 constructor
 ·rintro ⟨x,hx,e⟩
  have e:((x:Int) == (c:Int))=true:=e
  have:x=c:=by have:=eq_of_beq e;omega
  rw[←this];exact hx
 ·intro h
  exact⟨c,h,by show ((c:Int) == (c:Int))=true;exact beq_self_eq_true _⟩
theorem zhH (l:List Nat) (c:Nat):V.bl (if true=true then !inV (nat c) (natL l) else inV (nat c) (natL l))=.bl (!(l.contains c)):=by rw[if_pos rfl,zoi]
theorem zfF (l:List Nat):(natL l).all flatV=true:=by
 rw[List.all_eq_true]
 intro x hx
 obtain⟨n,_,rfl⟩:=List.mem_map.mp hx
 rfl
theorem zre (xs:List V) (k:Nat):cutV xs none (some (k:Int))=xs.take k:=by
 unfold cutV
 rw[HT.zmh,HT.zlr,List.drop_zero,Nat.sub_zero]
 by_cases h:k≤xs.length
 ·rw[Nat.min_eq_left h]
 ·rw[Nat.min_eq_right (by omega),List.take_length,List.take_of_length_le (by omega)]
theorem zpK (s:State):((List.range 900).filterMap λi=>if mayGive s (100+i)=true then some (nat (100+i)) else none)=natL (freeL s):=by
 rw[fm_if (λi=>mayGive s (100+i)) (λi=>nat (100+i))]
 unfold freeL natL Vbpoan.codes
 rw[List.filter_map,List.map_map]
 show _=List.map _ (List.filter (λi=>isFree s [] (100+i)) (List.range 900))
 have:(List.range 900).filter (λi=>mayGive s (100+i))=(List.range 900).filter (λi=>isFree s [] (100+i)):=by
  apply List.filter_congr
  intro i hi
  have:=List.mem_range.mp hi
  unfold mayGive
  rw[decide_eq_true (by omega),Bool.true_and]
 rw[this]
 rfl
section
variable {P:Program} {w:World} {K:PySem.W.Frag} {mg:Str→Option Value} {base:Heap} {Ad:Adr}
def zcg:Stmt:=top 8
theorem zht:FnScope ["code","withheld"] ["code","withheld"] (defScope zcg):=⟨rfl,rfl,rfl,by decide +kernel,rfl,by decide +kernel,by decide +kernel⟩
def zcM:Sp:=λvs H Q _=>∃d s,∃c:Nat,vs=[nat c,.ref d]∧HeldAt H d s∧Q (.bl (mayGive s c)) H
theorem zhF (D:DefIn K mg "may_be_given" zcg ["code","withheld"]) (T:Txt K mg Ad):Callable P w K mg base 1 "may_be_given" ["code","withheld"] zcM:=by
 refine D.ok (k:=0) zht (λvs H Q E h=>?_) (λf cdv A outer s H vs Q E hr h=>?_)
 ·obtain⟨d,s,c,rfl,_⟩:=h;rfl
 ·obtain⟨d,st,c,rfl,⟨kvs,l,hd,hk,hl⟩,k⟩:=h
  refine⟨_,(za5 (zac (zmn (zpr op_le op_le (zaq rfl T.zcp) (pv 0) (zaq rfl T.zc3)) (zkw (zr1 (znO (hu_of hr) (pv 0) (pv 1)) (by with_unfolding_all rfl)))))),?_⟩
  refine⟨_,rfl,_,_,rfl,rfl,_,rfl,ite2 (λh1=>?_) (λh1=>?_)⟩
  ·have h1:=of_decide_eq_true h1
   refine⟨_,_,rfl,rfl,_,rfl,ite2 (λh2=>?_) (λh2=>?_)⟩
   ·have h2:=of_decide_eq_true h2
    refine⟨_,rfl,_,rfl,d,_,rfl,DGet.k (k:=Sum.inl (c:Int)) hd,?_⟩
    have e:(!(valV kvs (Sum.inl (c:Int))).isSome)=mayGive st c:=by
     unfold mayGive
     rw[decide_eq_true (by omega),Bool.true_and,Bool.eq_iff_iff,zlH (by omega),←hl c,←hk.val c]
     cases (valV kvs (Sum.inl (c:Int))).isSome<;>simp
    rw[e]
    exact k
   ·have e:mayGive st c=false:=by
     unfold mayGive
     rw[decide_eq_false (λz=>h2 (decide_eq_true (by omega))),Bool.false_and]
    rw[e] at k
    exact k
  ·have e:mayGive st c=false:=by
    unfold mayGive
    rw[decide_eq_false (λz=>h1 (decide_eq_true (by omega))),Bool.false_and]
   rw[e] at k
   exact⟨_,rfl,iteF k⟩
def zaV:Stmt:=top 9
theorem zb8:FnScope ["town","wanted","withheld","free","code"] ["town","wanted"] (defScope zaV):=⟨rfl,rfl,rfl,by decide +kernel,rfl,by decide +kernel,by decide +kernel⟩
theorem zdU:BlkOk ["town","wanted","withheld","free","code"] (defScope zaV) { kind:=.function,names:=[(PySem.Str.ofString ".0",.local),(PySem.Str.ofString "code",.local),(PySem.Str.ofString "may_be_given",.globalImplicit),(PySem.Str.ofString "withheld",.free)],isGenerator:=false,isCoroutine:=false,more:=[] } [("code",4)]:=⟨rfl,by decide +kernel,by decide +kernel,by decide +kernel,by decide +kernel⟩
def zbK (CP CT:Addr):Sp:=λvs H Q _=>∃t L s n,∃m:Nat,vs=[.ref t,nat m]∧TownAt CP CT H t L s∧Good n s∧n≤401∧∀H' l,Same H H'→H l=none→H' l=some (.lst (natL ((freeL s).take m)))→Q (.ref l) H'
theorem zeQ (D:DefIn K mg "least_free_codes" zaV ["town","wanted"]) (T:Txt K mg Ad) (zaS:Callable P w K mg base 3 "withheld_codes" ["town"] (zc5 Ad.CP Ad.CT))
  (zbf:Callable P w K mg base 1 "may_be_given" ["code","withheld"] zcM):Callable P w K mg base 4 "least_free_codes" ["town","wanted"] (zbK Ad.CP Ad.CT):=by
 refine D.ok (k:=3) zb8 (λvs H Q E h=>?_) (λf cdv A outer s H vs Q E hr h=>?_)
 ·obtain⟨t,L,s,n,m,rfl,_⟩:=h;rfl
 ·obtain⟨t,L,st,n,m,rfl,tw,G,hn,k⟩:=h
  refine⟨_,(za2 (zah (i:=2) zb8.nd rfl (by first|exact Or.inl rfl|exact Or.inr rfl) (pe_fn zaS (hr.mono (by decide)) rfl passN (za0 (pv 0) za4)))
   (za2 (zjy (i:=3) rfl zb8.nd rfl rfl (zlo rfl rfl rfl rfl) (zku rfl T.zmd (za0 (zaq rfl T.zcp) (za0 (pe_op zcm (zaq rfl T.zc3) zae) za4))) zdU (λ_ _ _ _ _=>by exact(zaj (i:=4) zb8.nd rfl (by first|exact Or.inl rfl|exact Or.inr rfl))) (λ_ _ _ _ _=>by exact zeN (zgH (pe_fn zbf (hr.mono (by decide)) rfl passN (za0 (pv 4) (za0 (pv 2) za4))))) (λ_ _ _ _ _=>by exact(pv 4)))
   (za5 (zac (zhe zjo (pv 3) znI (zfV (pv 1))))))),?_⟩
  refine⟨_,rfl,t,L,st,n,rfl,tw,G,hn,λH1 d s1 n1 hd=>?_⟩
  refine⟨_,_,rfl,rfl,_,_,rfl,⟨by decide,by decide,by decide,by decide⟩,zpA (n:=900) (λi=>if mayGive st (100+i)=true then some (nat (100+i)) else none) (by decide) ?_ ?_⟩
  ·intro i hi H' s2 R hR
   refine⟨rfl,_,rfl,_,rfl,d,st,100+i,?_,?_,?_⟩
   ·show [V.int (100+(i:Int)),V.ref d]++[]=[nat (100+i),.ref d]
    rw[List.append_nil]
    congr 2
   ·obtain⟨kvs,l,e,hk,hl⟩:=hd
    exact⟨kvs,l,s2 _ _ e,hk,hl⟩
   ·refine⟨_,rfl,?_⟩
    have hR:=hR H' (Same.refl _)
    refine ite2 (λhc=>?_) (λhc=>?_)
    ·rw[if_pos hc] at hR
     refine⟨_,rfl,?_⟩
     have e:V.int (100+(i:Int))=nat (100+i):=by congr 1
     rw[e]
     exact hR
    ·rw[if_neg hc] at hR
     exact hR
  ·intro H2 l s2 n2 hl
   rw[zpK] at hl
   refine⟨_,rfl,_,rfl,_,rfl,l,_,rfl,SqL.of hl,λq hq=>?_⟩
   refine k _ q (Same.trans (Same.trans s1 s2) (za8 hq)) (Same.free (Same.trans s1 s2) hq) ?_
   rw[za1,zre]
   unfold natL
   rw[List.map_take]
def zdF:Stmt:=top 10
theorem zkn:FnScope ["town","point","code"] ["town","point","code"] (defScope zdF):=⟨rfl,rfl,rfl,by decide +kernel,rfl,by decide +kernel,by decide +kernel⟩
def zgz (CP CT:Addr):Sp:=λvs H Q _=>∃t pl rl s a h p,∃c:Nat,vs=[.ref t,.ref a,nat c]∧TwAt CT H t pl rl s∧PtAt CP H a h p∧RowsAt H h (p.olds.map oldV)∧p.olds.length≤1000∧
 ∀H',Kept [a,h] H H'→PtAt CP H' a h (Vbpoan.coded s c p)→RowsAt H' h ((Vbpoan.coded s c p).olds.map oldV)→Q .non H'
theorem zkI (D:DefIn K mg "give_code" zdF ["town","point","code"]) (T:Txt K mg Ad):Callable P w K mg base 1 "give_code" ["town","point","code"] (zgz Ad.CP Ad.CT):=by
 refine D.ok (k:=0) zkn (λvs H Q E h=>?_) (λf cdv A outer s H vs Q E hr h=>?_)
 ·obtain⟨t,pl,rl,s,a,h,p,c,rfl,_⟩:=h;rfl
 ·obtain⟨t,pl,rl,st,a,hh,p,c,rfl,⟨dt,ft,et,FT⟩,⟨dx,fs,e,F⟩,⟨ts,hts,tps⟩,hlen,k⟩:=h
  have line:sizeLine=16777216:=sizeLine_eq
  have htl:ts.length=(p.olds.map oldV).length:=Paired.length tps
  rw[List.length_map] at htl
  have nta:t≠a:=ne_of et e (by intro z;injection z with z1;exact T.ne1 z1.symm)
  have nha:hh≠a:=ne_of hts e (by intro z;cases z)
  have nth:t≠hh:=ne_of et hts (by intro z;cases z)
  refine⟨_,(za2 (ps_if (zaf op_eq (zab (pv 1) rfl) (pv 2) (nomark _)) (za5 zqi) zag)
   (za2 (ps_if (zaf op_ne (zab (pv 1) rfl) (zaq rfl T.zc2) (nomark _)) (za5 (zaA (pe_bm PySem.F.plainAttrs_list PySem.F.slot_list_append PySem.F.type_list_append zcn (zab (pv 1) rfl) (za0 (zd9 (za0 (zab (pv 1) rfl) (za0 (zab (pv 1) rfl) (za0 (zab (pv 0) rfl) za4)))) za4)))) zag)
   (za2 (zc4 (pv 1) (pv 2) rfl)
   (za5 (zc4 (pv 1) (zab (pv 0) rfl) rfl))))),?_⟩
  refine⟨_,rfl,a,Ad.CP,dx,fs,_,rfl,e,T.clCP,T.zb2,F.code,_,rfl,rfl,_,rfl,ite2 (λhc=>?_) (λhc=>?_)⟩
  ·have hc:=zaQ.mp hc
   have ec:Vbpoan.coded st c p=p:=by unfold Vbpoan.coded;rw[if_pos hc]
   exact k H (Same.kept _ (Same.refl _)) (by rw[ec];exact⟨dx,fs,e,F⟩) (by rw[ec];exact⟨ts,hts,tps⟩)
  ·have hc:¬ p.code=c:=λz=>hc (zaQ.mpr z)
   have fin:∀H1,Kept [a,hh] H H1→H1 a=some (.ins Ad.CP dx fs)→RowsAt H1 hh ((if p.code=0 then p.olds else p.olds++[⟨p.code,p.since,st.day⟩]).map oldV)→
     Q .non (upd (upd H1 a (.ins Ad.CP dx (putF "code" (nat c) fs))) a (.ins Ad.CP dx (putF "since" (nat st.day) (putF "code" (nat c) fs)))):=by
    intro H1 k1 e1 r1
    have ec:Vbpoan.coded st c p={ p with code:=c,since:=st.day,olds:=if p.code=0 then p.olds else p.olds++[⟨p.code,p.since,st.day⟩] }:=by unfold Vbpoan.coded;rw[if_neg hc]
    rw[zeJ]
    refine k _ (λb o eb hb=>?_) ?_ ?_
    ·rw[za6 (λz=>hb (by rw[z];exact List.mem_cons_self))]
     exact k1 b o eb hb
    ·rw[ec]
     refine⟨dx,_,za1,za3 _ (by decide) (za3 _ (by decide) F.number),za3 _ (by decide) (za3 _ (by decide) F.load),za3 _ (by decide) (zal _ _ _),zal _ _ _,za3 _ (by decide) (za3 _ (by decide) F.had),?_⟩
     rw[zbJ _ _ _ (by rw[za3 (f:="code") (g:="since") _ (by decide) F.since];rfl),zbJ _ _ _ (by rw[F.code];rfl)]
     exact F.few
    ·rw[ec]
     refine r1.kept (S:=[a]) zaG (by simpa using nha) λb hb xs=>?_
     rw[List.mem_singleton.mp hb,e1]
     intro z;cases z
   refine⟨_,rfl,a,Ad.CP,dx,fs,_,rfl,e,T.clCP,T.zb2,F.code,rfl,_,rfl,ite2 (λh0=>?_) (λh0=>?_)⟩
   ·have h0:=zkL (b:=0) h0
    refine⟨_,rfl,a,Ad.CP,dx,fs,_,rfl,e,T.clCP,T.p_had,F.had,.inl ⟨rfl,_,SqL.of hts⟩,
     _,rfl,a,Ad.CP,dx,fs,_,rfl,e,T.clCP,T.zb2,F.code,_,rfl,a,Ad.CP,dx,fs,_,rfl,e,T.clCP,T.zhx,F.since,_,rfl,t,Ad.CT,dt,ft,_,rfl,et,T.clCT,T.t_day,FT.day,(by show 3≤sizeLine;decide),λtt htt=>?_⟩
    have ntt:hh≠tt:=za7 hts htt
    have nat':a≠tt:=za7 e htt
    have ntt2:t≠tt:=za7 et htt
    refine⟨hh,_,_,rfl,rfl,by rw[za6 ntt];exact hts,by rw[List.length_map];omega,?_⟩
    have e1:upd (upd H tt (.tup [nat p.code,nat p.since,nat st.day])) hh (.lst (ts.map V.ref++[.ref tt])) a=some (.ins Ad.CP dx fs):=by rw[za6 (Ne.symm nha),za6 nat'];exact e
    refine⟨_,rfl,_,rfl,a,Ad.CP,dx,fs,rfl,e1,T.clCP,T.zb2,by have:=F.few;omega,?_⟩
    refine⟨_,rfl,t,Ad.CT,dt,ft,_,rfl,by rw[za6 nta,za6 nth,za6 ntt2];exact et,T.clCT,T.t_day,FT.day,_,rfl,a,Ad.CP,dx,_,rfl,za1,T.clCP,T.zhx,?_,?_⟩
    ·rw[zbJ _ _ _ (by rw[F.code];rfl)]
     have:=F.few;omega
    ·refine fin _ (Kept.mono (zfE htt) (by simp)) e1 ?_
     rw[if_neg h0,List.map_append]
     exact zc0 hts tps htt
   ·have h0:=zkM (b:=0) h0
    refine⟨_,rfl,_,rfl,a,Ad.CP,dx,fs,rfl,e,T.clCP,T.zb2,by have:=F.few;omega,?_⟩
    refine⟨_,rfl,t,Ad.CT,dt,ft,_,rfl,by rw[za6 nta];exact et,T.clCT,T.t_day,FT.day,_,rfl,a,Ad.CP,dx,_,rfl,za1,T.clCP,T.zhx,?_,?_⟩
    ·rw[zbJ _ _ _ (by rw[F.code];rfl)]
     have:=F.few;omega
    ·refine fin _ (Same.kept _ (Same.refl _)) e ?_
     rw[if_pos h0]
     exact⟨ts,hts,tps⟩
def zbz:Stmt:=top 11
theorem zbi:FnScope ["town","codes_before","codes_now","lost","code"] ["town","codes_before"] (defScope zbz):=⟨rfl,rfl,rfl,by decide +kernel,rfl,by decide +kernel,by decide +kernel⟩
theorem zfJ:BlkOk ["town","codes_before","codes_now","lost","code"] (defScope zbz) { kind:=.function,names:=[(PySem.Str.ofString ".0",.local),(PySem.Str.ofString "code",.local),(PySem.Str.ofString "codes_now",.free)],isGenerator:=false,isCoroutine:=false,more:=[] } [("code",4)]:=⟨rfl,by decide +kernel,by decide +kernel,by decide +kernel,by decide +kernel⟩
def zcL (CP CT:Addr):Sp:=λvs H Q _=>∃t L s bl before,vs=[.ref t,.ref bl]∧TownAt CP CT H t L s∧s.points.length≤40∧s.retired.length≤100000∧H bl=some (.lst (natL (codesD before)))∧before.length≤40∧bl≠L.rl∧
 ∀H',Kept [L.rl] H H'→TownAt CP CT H' t L (Vbpoan.retire s before)→Q (nat (lostOf before (codesOf s)).length) H'
theorem zhD (D:DefIn K mg "retire_codes" zbz ["town","codes_before"]) (T:Txt K mg Ad) (zav:Callable P w K mg base 1 "codes_of" ["points"] (zbM Ad.CP)) :
  Callable P w K mg base 2 "retire_codes" ["town","codes_before"] (zcL Ad.CP Ad.CT):=by
 refine D.ok (k:=1) zbi (λvs H Q E h=>?_) (λf cdv A outer s H vs Q E hr h=>?_)
 ·obtain⟨t,L,s,bl,before,rfl,_⟩:=h;rfl
 ·obtain⟨t,L,st,bl,before,rfl,tw,h40,hret,hbl,hb40,nbl,k⟩:=h
  have line:sizeLine=16777216:=sizeLine_eq
  obtain⟨dt,fs,et,F⟩:=tw.tw
  refine⟨_,(za2 (zah (i:=2) zbi.nd rfl (by first|exact Or.inl rfl|exact Or.inr rfl) (pe_fn zav (hr.mono (by decide)) rfl passN (za0 (zab (pv 0) rfl) za4)))
   (za2 (zjy (i:=3) rfl zbi.nd rfl rfl (zlo rfl rfl rfl rfl) (zaE (pv 1)) zfJ (λ_ _ _ _ _=>by exact(zaj (i:=4) zbi.nd rfl (by first|exact Or.inl rfl|exact Or.inr rfl))) (λ_ _ _ _ _=>by exact zeN (zaf (zjB (K:=K) rfl) (pv 4) (pv 2) (by with_unfolding_all rfl))) (λ_ _ _ _ _=>by exact(pv 4)))
   (za2 (zbB ownP rfl (zaE (pv 3)) (zaj (i:=4) zbi.nd rfl (by first|exact Or.inl rfl|exact Or.inr rfl)) (za5 (zaA (pe_bm PySem.F.plainAttrs_list PySem.F.slot_list_append PySem.F.type_list_append zcn (zab (pv 0) rfl) (za0 (zd9 (za0 (pv 4) (za0 (zab (pv 0) rfl) za4))) za4)))))
   (za5 (zac (zai zaa rfl T.b_len PySem.boot_len (za0 (pv 3) za4))))))),?_⟩
  refine⟨_,rfl,t,Ad.CT,dt,fs,_,rfl,et,T.clCT,T.zap,F.points,L.pl,L.ps,st.points,rfl,tw.pts,h40,λH1 l s1 n1 hl=>?_⟩
  have hcd:=zcH before
  refine⟨_,rfl,bl,rfl,⟨_,SqL.of (s1 _ _ hbl)⟩,ze5 (K:=K) (a:=bl) (xs:=natL (codesD before)) (codesD before) (λc=>if (!(codesD (codesOf st)).contains c)=true then some (nat c) else none) (SqL.of (s1 _ _ hbl)) (by rw[List.length_map]) (by omega) ?_ ?_⟩
  ·intro i x c hx hc H' s2 R hR
   obtain⟨c',hc',rfl⟩:=zgL hx
   rw[hc] at hc'
   cases hc'
   have hR:=hR H' (Same.refl _)
   refine⟨rfl,_,rfl,_,rfl,l,_,rfl,.inl (SqL.of (s2 _ _ hl)),rfl,zfF _,!(codesD (codesOf st)).contains c,zhH _ _,ite2 (λhc=>?_) (λhc=>?_)⟩
   ·rw[if_pos hc] at hR
    exact⟨_,rfl,hR⟩
   ·rw[if_neg hc] at hR
    exact hR
  ·intro H2 ll s2 n2 hll
   rw[fm_if (λc=>!(codesD (codesOf st)).contains c) nat] at hll
   have hll:H2 ll=some (.lst (natL (lostOf before (codesOf st)))):=hll
   have tw2:=tw.same (Same.trans s1 s2)
   have hlost:(lostOf before (codesOf st)).length≤40:=Nat.le_trans (zeT _ _) hb40
   have nll:ll≠L.rl:=λz=>by
    have:=tw.ret
    obtain⟨ts,e,_⟩:=this
    rw[z,s1 _ _ e] at n2;cases n2
   refine⟨_,rfl,ll,rfl,⟨_,SqL.of hll⟩,zb0 (K:=K) (a:=ll) (xs:=natL (lostOf before (codesOf st)))
    (λi σ H'=>∃v,σ=[some (.ref t),some (.ref bl),some (.ref l),some (.ref ll),v]∧Kept [L.rl] H2 H'∧RowsAt H' L.rl ((st.retired++((lostOf before (codesOf st)).take i).map λc=>(⟨c,st.day⟩:Retired)).map retV))
    ⟨none,rfl,Same.kept _ (Same.refl _),by rw[List.take_zero,List.map_nil,List.append_nil];exact tw2.ret⟩ (λi σ H' _ ⟨_,_,k1,_⟩=>SqL.of (k1 _ _ hll (by simpa using nll))) ?_ ?_⟩
   ·rintro i y σ H' hi ⟨v,rfl,k1,ts,hts,tps⟩
    obtain⟨c,hc,rfl⟩:=zgL hi
    have htl:ts.length=_:=Paired.length tps
    rw[List.length_map,List.length_append,List.length_map,List.length_take] at htl
    have et':H' t=some (.ins Ad.CT dt fs):=k1 _ _ (s2 _ _ (s1 _ _ et)) (by
     intro z
     rw[List.mem_singleton.mp z] at et
     obtain⟨xs,q⟩:=tw.ret.is et
     cases q)
    refine⟨_,rfl,t,Ad.CT,dt,fs,_,rfl,et',T.clCT,T.zdl,F.retired,.inl ⟨rfl,_,SqL.of hts⟩,_,rfl,_,rfl,t,Ad.CT,dt,fs,_,rfl,et',T.clCT,T.t_day,F.day,(by show 2≤sizeLine;decide),λtt htt=>?_⟩
    have ntt:L.rl≠tt:=za7 hts htt
    refine⟨L.rl,_,_,rfl,rfl,by rw[za6 ntt];exact hts,by rw[List.length_map];omega,?_⟩
    refine⟨_,rfl,Kept.comp k1 (zfE htt),?_⟩
    have e:(st.retired++((lostOf before (codesOf st)).take (i+1)).map λc=>(⟨c,st.day⟩:Retired)).map retV=(st.retired++((lostOf before (codesOf st)).take i).map λc=>(⟨c,st.day⟩:Retired)).map retV++[[nat c,nat st.day]]:=by
     rw[zau hc]
     simp only[List.map_append,List.append_assoc,List.map_cons,List.map_nil]
     rfl
    rw[e]
    exact zc0 hts tps htt
   ·rintro σ H' ⟨v,rfl,k1,r1⟩
    rw[List.length_map,List.take_length] at r1
    have hll':=k1 _ _ hll (by simpa using nll)
    refine⟨_,rfl,ll,_,rfl,.inl (SqL.of hll'),?_⟩
    rw[List.length_map]
    refine k H' (Kept.comp (Same.kept _ (Same.trans s1 s2)) k1) ?_
    rw[zft]
    exact tw2.setRet k1 r1
end
end Pd
end
section
namespace Pd
open PySem PySem.Spec PyProof.Rows L2
open Vbpoan (State Point Old Retired codesOf loadsOf isFree pointOf inside)
theorem zlN {α:Type} {f:α→Bool}:∀{l:List α} {i:Nat} {p:α},(∀j q,j < i→l[j]?=some q→f q=false)→l[i]?=some p→f p=true→l.find? f=some p
 | [],i,p,_,h,_=>by simp at h
 | a::l,0,p,_,h,hp=>by
  have e:=Option.some.inj h
  subst e
  rw[List.find?_cons,hp]
 | a::l,i+1,p,hn,h,hp=>by
  rw[List.find?_cons,hn 0 a (by omega) rfl]
  exact zlN (i:=i) (λj q hj hq=>hn (j+1) q (by omega) (by simpa using hq)) (by simpa using h) hp
theorem zaJ {f:Str} {v:V} {fs:List (Str×V)} {n:Nat} (h:fs.length≤n):(putF f v fs).length≤n+1:=Nat.le_trans (zeX f v fs) (Nat.add_le_add_right h 1)
theorem zqC {α:Type} {f:α→Bool} {l:List α} (hn:∀j q,j < l.length→l[j]?=some q→f q=false):l.find? f=none:=by
 rw[List.find?_eq_none]
 intro x hx
 obtain⟨j,hj⟩:=List.getElem?_of_mem hx
 rw[hn j x (List.getElem?_eq_some_iff.mp hj).1 hj]
 exact Bool.false_ne_true
section
variable {P:Program} {w:World} {K:PySem.W.Frag} {mg:Str→Option Value} {base:Heap} {Ad:Adr}
def zcA:Stmt:=top 20
theorem ziw:FnScope ["number","least","greatest"] ["number","least","greatest"] (defScope zcA):=⟨rfl,rfl,rfl,by decide +kernel,rfl,by decide +kernel,by decide +kernel⟩
def zay (Ad:Adr):Sp:=λvs H Q E=>∃n lo hi:Int,vs=[.int n,.int lo,.int hi]∧(inside n lo hi=false→E (.ref Ad.eR) none H)∧(inside n lo hi=true→Q .non H)
theorem ziz (D:DefIn K mg "check_range" zcA ["number","least","greatest"]) (T:Txt K mg Ad):Callable P w K mg base 1 "check_range" ["number","least","greatest"] (zay Ad):=by
 refine D.ok (k:=0) ziw (λvs H Q E h=>?_) (λf cdv A outer s H vs Q E hr h=>?_)
 ·obtain⟨n,lo,hi,rfl,_⟩:=h;rfl
 ·obtain⟨n,lo,hi,rfl,kE,kQ⟩:=h
  refine⟨_,(za5 (ps_if (PW.pt (pw_or (zaf op_lt (pv 0) (pv 1) (nomark _)) (zhv (zaf op_gt (pv 0) (pv 2) (nomark _))))) (za5 (zd8 rfl T.zbw T.zjR)) zag)),?_⟩
  refine⟨_,rfl,_,rfl,_,_,rfl,rfl,_,rfl,ite2 (λh1=>?_) (λh1=>?_)⟩
  ·have h1:=of_decide_eq_true h1
   exact iteT (kE (ze6.mpr (.inl h1)))
  ·have h1:¬ n < lo:=λz=>h1 (decide_eq_true z)
   refine⟨_,rfl,_,rfl,_,_,rfl,rfl,_,rfl,ite2 (λh2=>?_) (λh2=>?_)⟩
   ·have h2:=of_decide_eq_true h2
    exact kE (ze6.mpr (.inr h2))
   ·have h2:¬ hi < n:=λz=>h2 (decide_eq_true z)
    exact kQ (zaD.mpr ⟨by omega,by omega⟩)
def zd1:Stmt:=top 21
theorem zfn:FnScope ["town","number","point"] ["town","number"] (defScope zd1):=⟨rfl,rfl,rfl,by decide +kernel,rfl,by decide +kernel,by decide +kernel⟩
def zbl (Ad:Adr):Sp:=λvs H Q E=>∃t L s,∃m:Int,vs=[.ref t,.int m]∧TownAt Ad.CP Ad.CT H t L s∧(inside m 1 1000000=false→E (.ref Ad.eR) none H)∧(inside m 1 1000000=true→pointOf s m=none→E (.ref Ad.eP) none H)∧
 ∀(j:Nat) (x:Addr×Addr) (p:Point),inside m 1 1000000=true→L.ps[j]?=some x→s.points[j]?=some p→pointOf s m=some p→(p.id:Int)=m→Q (.ref x.1) H
theorem zjC (D:DefIn K mg "find_point" zd1 ["town","number"]) (T:Txt K mg Ad) (za9:Callable P w K mg base 1 "check_range" ["number","least","greatest"] (zay Ad)) :
  Callable P w K mg base 2 "find_point" ["town","number"] (zbl Ad):=by
 refine D.ok (k:=1) zfn (λvs H Q E h=>?_) (λf cdv A outer s H vs Q E hr h=>?_)
 ·obtain⟨t,L,s,m,rfl,_⟩:=h;rfl
 ·obtain⟨t,L,st,m,rfl,tw,kR,kP,kQ⟩:=h
  obtain⟨dt,fs,et,F⟩:=tw.tw
  have hlp:=tw.pts.len
  refine⟨_,(za2 (zaA (pe_fn za9 (hr.mono (by decide)) rfl (passP λ_ _ _ z=>z) (za0 (pv 1) (za0 zae (za0 (zaq rfl T.zdu) za4)))))
   (za2 (zbB ownP rfl (zaE (zab (pv 0) rfl)) (zaj (i:=2) zfn.nd rfl (by first|exact Or.inl rfl|exact Or.inr rfl)) (za5 (ps_if (zaf op_eq (zab (pv 2) rfl) (pv 1) (nomark _)) (za5 (zac (pv 2))) zag)))
   (za5 (zd8 rfl T.zci T.ziJ)))),?_⟩
  refine⟨_,rfl,m,1,1000000,rfl,kR,λhin=>?_⟩
  refine⟨_,rfl,t,Ad.CT,dt,fs,_,rfl,et,T.clCT,T.zap,F.points,L.pl,rfl,⟨_,SqL.of tw.pts.lst⟩,zb0 (K:=K) (a:=L.pl) (xs:=L.ps.map λx=>V.ref x.1)
   (λi σ H'=>∃v,σ=[some (.ref t),some (.int m),v]∧H'=H∧∀j q,j < i→st.points[j]?=some q→((q.id:Int) == m)=false)
   ⟨none,rfl,rfl,λj q hj=>by omega⟩ (λi σ H' _ ⟨_,_,e,_⟩=>by rw[e];exact SqL.of tw.pts.lst) ?_ ?_⟩
  ·rintro i y σ H' hi ⟨v,rfl,rfl,hno⟩
   obtain⟨x,hx,rfl⟩:=pt_at hi
   obtain⟨p,hp,dx,fp,e,FP⟩:=Paired.get1 tw.pts.pt hx
   refine⟨_,rfl,x.1,Ad.CP,dx,fp,_,rfl,e,T.clCP,T.zfv,FP.number,_,rfl,rfl,_,rfl,ite2 (λhc=>?_) (λhc=>?_)⟩
   ·have hc:(p.id:Int)=m:=by
     have:=of_decide_eq_true hc
     injection this
    exact⟨_,rfl,kQ i x p hin hx hp (zlN hno hp (beq_iff_eq.mpr hc)) hc⟩
   ·have hc:¬ (p.id:Int)=m:=λz=>hc (decide_eq_true (congrArg V.int z))
    refine⟨_,rfl,rfl,λj q hj hq=>?_⟩
    by_cases e:j=i
    ·subst e
     rw[hp] at hq
     cases hq
     exact beq_eq_false_iff_ne.mpr hc
    ·exact hno j q (by omega) hq
  ·rintro σ H' ⟨v,rfl,rfl,hno⟩
   rw[List.length_map,hlp] at hno
   exact kP hin (zqC hno)
def zhd:Stmt:=top 22
theorem znC:FnScope ["numbers"] ["numbers"] (defScope zhd):=⟨rfl,rfl,rfl,by decide +kernel,rfl,by decide +kernel,by decide +kernel⟩
def zbc:Sp:=λvs H Q _=>∃l xs,vs=[.ref l]∧H l=some (.lst xs)∧xs.length < 100000∧∀H' p,Same H H'→H p=none→H' p=some (.lst (.int (xs.length:Int)::xs))→Q (.ref p) H'
theorem znT (D:DefIn K mg "as_row" zhd ["numbers"]) (T:Txt K mg Ad):Callable P w K mg base 1 "as_row" ["numbers"] zbc:=by
 refine D.ok (k:=0) znC (λvs H Q E h=>?_) (λf cdv A outer s H vs Q E hr h=>?_)
 ·obtain⟨l,xs,rfl,_⟩:=h;rfl
 ·obtain⟨l,xs,rfl,hl,hlen,k⟩:=h
  have line:sizeLine=16777216:=sizeLine_eq
  refine⟨_,(za5 (zac (pe_op zcQ (zas (za0 (zai zaa rfl T.b_len PySem.boot_len (za0 (pv 0) za4)) za4)) (pv 0)))),?_⟩
  refine⟨_,rfl,l,xs,rfl,.inl (SqL.of hl),(by show 1≤sizeLine;decide),λq hq=>?_⟩
  have nlq:l≠q:=za7 hl hq
  refine⟨_,rfl,q,l,_,xs,rfl,rfl,za1,by rw[za6 nlq];exact hl,by show 1+xs.length≤sizeLine;omega,λp hp=>?_⟩
  have s0:Same H (upd H q (.lst [.int (xs.length:Int)])):=za8 hq
  exact k _ p (Same.trans s0 (za8 hp)) (s0.free hp) za1
def zd5:Stmt:=top 23
theorem zdx:FnScope ["groups","numbers","group"] ["groups"] (defScope zd5):=⟨rfl,rfl,rfl,by decide +kernel,rfl,by decide +kernel,by decide +kernel⟩
def zcy:Sp:=λvs H Q _=>∃g xss,vs=[.ref g]∧RowsAt H g xss∧xss.flatten.length < 100000∧∀H' p,Same H H'→H p=none→H' p=some (.lst (.int (xss.flatten.length:Int)::xss.flatten))→Q (.ref p) H'
theorem zgZ {α:Type} (xss:List (List α)) (i:Nat):(xss.take i).flatten.length≤xss.flatten.length:=by
 conv=>rhs;rw[←List.take_append_drop i xss,List.flatten_append,List.length_append]
 omega
theorem zjH (D:DefIn K mg "as_one_row" zd5 ["groups"]) (T:Txt K mg Ad) (zak:Callable P w K mg base 1 "as_row" ["numbers"] zbc):Callable P w K mg base 2 "as_one_row" ["groups"] zcy:=by
 refine D.ok (k:=1) zdx (λvs H Q E h=>?_) (λf cdv A outer s H vs Q E hr h=>?_)
 ·obtain⟨l,xs,rfl,_⟩:=h;rfl
 ·obtain⟨g,xss,rfl,⟨ts,hts,tps⟩,hlen,k⟩:=h
  have line:sizeLine=16777216:=sizeLine_eq
  have htl:ts.length=xss.length:=Paired.length tps
  refine⟨_,(za2 (zah (i:=1) zdx.nd rfl (by first|exact Or.inl rfl|exact Or.inr rfl) (zas za4))
   (za2 (zbB ownP rfl (zaE (pv 0)) (zaj (i:=2) zdx.nd rfl (by first|exact Or.inl rfl|exact Or.inr rfl)) (za5 (zaA (pe_bm PySem.F.plainAttrs_list PySem.F.slot_list_extend PySem.F.type_list_extend zmU (pv 1) (za0 (pv 2) za4)))))
   (za5 (zac (pe_fn zak (hr.mono (by decide)) rfl passN (za0 (pv 1) za4)))))),?_⟩
  refine⟨Nat.zero_le _,λl hl=>?_⟩
  have s0:Same H (upd H l (.lst [])):=za8 hl
  refine⟨_,rfl,g,rfl,⟨_,SqL.of (s0 _ _ hts)⟩,zb0 (K:=K) (a:=g) (xs:=ts.map V.ref) (λi σ H'=>∃v,σ=[some (.ref g),some (.ref l),v]∧Same H H'∧H' l=some (.lst (xss.take i).flatten))
   ⟨none,rfl,s0,za1⟩ (λi σ H' _ ⟨_,_,s1,_⟩=>SqL.of (s1 _ _ hts)) ?_ ?_⟩
  ·rintro i y σ H' hi ⟨v,rfl,s1,hl1⟩
   obtain⟨tt,e1,rfl⟩:=zgF hi
   obtain⟨xs,e2,e3⟩:=Paired.get1 tps e1
   have et:(xss.take (i+1)).flatten=(xss.take i).flatten++xs:=by rw[zau e2,List.flatten_append];simp
   have hl2:=zgZ xss (i+1)
   rw[et,List.length_append] at hl2
   refine⟨_,rfl,.inl ⟨rfl,_,SqL.of hl1⟩,_,rfl,l,tt,_,xs,rfl,rfl,hl1,SqT.of (s1 _ _ e3),by omega,_,rfl,λb o e=>?_,?_⟩
   ·rw[za6 (za7 e hl)];exact s1 _ _ e
   ·rw[za1,et]
  ·rintro σ H' ⟨v,rfl,s1,hl1⟩
   rw[List.length_map,htl,List.take_length] at hl1
   refine⟨_,rfl,l,_,rfl,hl1,hlen,λH2 p s2 n2 hp=>?_⟩
   exact k H2 p (Same.trans s1 s2) (s1.free n2) hp
def zbI:Stmt:=inClass (top 40) 0
theorem zfT:FnScope ["self","number","load","code","since"] ["self","number","load","code","since"] (defScope zbI):=⟨rfl,rfl,rfl,by decide +kernel,rfl,by decide +kernel,by decide +kernel⟩
def zmg (CP:Addr):Sp:=λvs H Q _=>∃x dx,∃i l c d:Nat,vs=[.ref x,nat i,nat l,nat c,nat d]∧H x=some (.ins CP dx [])∧
 ∀H' h,Kept [x] H H'→H h=none→PtAt CP H' x h ⟨i,l,c,d,[]⟩→H' h=some (.lst [])→Q .non H'
theorem zpu (D:InitIn (K:=K) Ad.CP "Point.__init__" zbI ["self","number","load","code","since"]) (T:Txt K mg Ad):MakesIn P w K mg base 1 Ad.CP ["self","number","load","code","since"] (zmg Ad.CP):=by
 refine D.ok (k:=0) zfT (λvs H Q E h=>?_) (λf cdv A outer s H vs Q E hr h=>?_)
 ·obtain⟨x,dx,i,l,c,d,rfl,_⟩:=h;rfl
 ·obtain⟨x,dx,i,l,c,d,rfl,hx,k⟩:=h
  refine⟨_,(za2 (zc4 (pv 0) (pv 1) rfl)
   (za2 (zc4 (pv 0) (pv 2) rfl)
   (za2 (zc4 (pv 0) (pv 3) rfl)
   (za2 (zc4 (pv 0) (pv 4) rfl)
   (za5 (zc4 (pv 0) (zas za4) rfl)))))),?_⟩
  have few5:(putF "had" (.ref 0) (putF "since" (nat d) (putF "code" (nat c) (putF "load" (nat l) (putF "number" (nat i) []))))).length≤5:=zaJ (zaJ (zaJ (zaJ (zaJ (Nat.le_refl 0)))))
  refine⟨_,rfl,_,rfl,x,Ad.CP,dx,_,rfl,hx,T.clCP,T.zfv,(by show 0 < 1000;decide),?_⟩
  refine⟨_,rfl,_,rfl,x,Ad.CP,dx,_,rfl,za1,T.clCP,T.zfw,Nat.lt_of_le_of_lt (zaJ (Nat.le_refl 0)) (by decide),?_⟩
  refine⟨_,rfl,_,rfl,x,Ad.CP,dx,_,rfl,za1,T.clCP,T.zb2,Nat.lt_of_le_of_lt (zaJ (zaJ (Nat.le_refl 0))) (by decide),?_⟩
  refine⟨_,rfl,_,rfl,x,Ad.CP,dx,_,rfl,za1,T.clCP,T.zhx,Nat.lt_of_le_of_lt (zaJ (zaJ (zaJ (Nat.le_refl 0)))) (by decide),?_⟩
  refine⟨Nat.zero_le _,λh hh=>?_⟩
  have nxh:x≠h:=λz=>by rw[←z,za1] at hh;cases hh
  refine⟨_,rfl,x,Ad.CP,dx,_,rfl,by rw[za6 nxh,za1],T.clCP,T.p_had,Nat.lt_of_le_of_lt (zaJ (zaJ (zaJ (zaJ (Nat.le_refl 0))))) (by decide),?_⟩
  refine k _ h (λb o e hb=>?_) ?_ ⟨dx,_,za1,?_⟩ (by rw[za6 (Ne.symm nxh),za1])
  ·have nb:b≠x:=by simpa using hb
   have hb':upd (upd (upd (upd H x (.ins Ad.CP dx (putF "number" (nat i) []))) x (.ins Ad.CP dx (putF "load" (nat l) (putF "number" (nat i) [])))) x (.ins Ad.CP dx (putF "code" (nat c) (putF "load" (nat l) (putF "number" (nat i) []))))) x (.ins Ad.CP dx (putF "since" (nat d) (putF "code" (nat c) (putF "load" (nat l) (putF "number" (nat i) []))))) b=some o:=by
    rw[za6 nb,za6 nb,za6 nb,za6 nb];exact e
   rw[za6 nb,za6 (za7 hb' hh)]
   exact hb'
  ·rw[za6 (Ne.symm nxh),za6 (Ne.symm nxh),za6 (Ne.symm nxh),za6 (Ne.symm nxh)] at hh
   exact hh
  ·refine⟨?_,?_,?_,?_,zal _ _ _,Nat.le_trans (zaJ (zaJ (zaJ (zaJ (zaJ (Nat.le_refl 0)))))) (by decide)⟩
   ·exact za3 _ (by decide) (za3 _ (by decide) (za3 _ (by decide) (za3 _ (by decide) (zal _ _ _))))
   ·exact za3 _ (by decide) (za3 _ (by decide) (za3 _ (by decide) (zal _ _ _)))
   ·exact za3 _ (by decide) (za3 _ (by decide) (zal _ _ _))
   ·exact za3 _ (by decide) (zal _ _ _)
def zd7:Stmt:=inClass (top 41) 1
theorem zjs:FnScope ["self","grace","cap"] ["self","grace","cap"] (defScope zd7):=⟨rfl,rfl,rfl,by decide +kernel,rfl,by decide +kernel,by decide +kernel⟩
def townNames:List Str:=["day","grace","cap","points","retired","numbers_given"]
def Has6 (fs:List (Str×V)):Prop:=∀g∈townNames,(fs.lookup g).isSome=true
theorem Has6.put {fs:List (Str×V)} (h:Has6 fs) (f:Str) (v:V):Has6 (putF f v fs):=λg hg=>by
 rw[zcR]
 split
 ·rfl
 ·exact h g hg
theorem TownF.has {fs:List (Str×V)} {s:State} {pl rl:Addr} (F:TownF fs s pl rl):Has6 fs:=λg hg=>by
 simp only[townNames,List.mem_cons,List.not_mem_nil,or_false] at hg
 rcases hg with z|z|z|z|z|z<;>subst z
 ·rw[F.day];rfl
 ·rw[F.grace];rfl
 ·rw[F.cap];rfl
 ·rw[F.points];rfl
 ·rw[F.retired];rfl
 ·rw[F.given];rfl
def Few6 (k:Nat) (fs:List (Str×V)):Prop:=fs.length≤k∨(Has6 fs∧fs.length≤10)
theorem Few6.put {fs:List (Str×V)} {k:Nat} (h:Few6 k fs) {f:Str} (hf:f∈townNames) (v:V):Few6 (k+1) (putF f v fs):=by
 rcases h with h|⟨h1,h2⟩
 ·exact .inl (zaJ h)
 ·exact .inr ⟨h1.put f v,by rw[zbJ f v fs (h1 f hf)];exact h2⟩
theorem Few6.lt {fs:List (Str×V)} {k:Nat} (h:Few6 k fs) (hk:k≤10):fs.length≤10:=by
 rcases h with h|⟨_,h⟩
 ·omega
 ·exact h
def zjm (CP CT:Addr):Sp:=λvs H Q _=>∃t dx fs,∃g c:Nat,vs=[.ref t,nat g,nat c]∧H t=some (.ins CT dx fs)∧Few6 0 fs∧fs.lookup ("renew":Str)=none∧
 ∀H' pl rl,Kept [t] H H'→H pl=none→H rl=none→TownAt CP CT H' t ⟨pl,rl,[]⟩ { Vbpoan.start with grace:=g,cap:=c }→Q .non H'
theorem zps (D:MethIn (K:=K) Ad.CT "renew" "Town.renew" zd7 ["self","grace","cap"]) (T:Txt K mg Ad):CallableM P w K mg base 1 Ad.CT "renew" ["self","grace","cap"] (zjm Ad.CP Ad.CT):=by
 refine D.ok (k:=0) zjs (λvs H Q E h=>?_) (λf cdv A outer s H vs Q E hr h=>?_)
 ·obtain⟨t,dx,fs,g,c,rfl,_⟩:=h;rfl
 ·obtain⟨t,dx,fs,g,c,rfl,ht,f0,noR,k⟩:=h
  refine⟨_,(za2 (zc4 (pv 0) zae rfl)
   (za2 (zc4 (pv 0) (pv 1) rfl)
   (za2 (zc4 (pv 0) (pv 2) rfl)
   (za2 (zc4 (pv 0) (zas za4) rfl)
   (za2 (zc4 (pv 0) (zas za4) rfl)
   (za5 (zc4 (pv 0) zae rfl))))))),?_⟩
  have f1:=f0.put (f:="day") (by decide) (.int 0)
  have f2:=f1.put (f:="grace") (by decide) (nat g)
  have f3:=f2.put (f:="cap") (by decide) (nat c)
  refine⟨_,rfl,t,Ad.CT,dx,_,rfl,ht,T.clCT,T.t_day,Nat.lt_of_le_of_lt (f0.lt (by decide)) (by decide),?_⟩
  refine⟨_,rfl,_,rfl,t,Ad.CT,dx,_,rfl,za1,T.clCT,T.zln,Nat.lt_of_le_of_lt (f1.lt (by decide)) (by decide),?_⟩
  refine⟨_,rfl,_,rfl,t,Ad.CT,dx,_,rfl,za1,T.clCT,T.t_cap,Nat.lt_of_le_of_lt (f2.lt (by decide)) (by decide),?_⟩
  rw[zeJ,zeJ]
  generalize hfs:putF "cap" (nat c) (putF "grace" (nat g) (putF "day" (.int 0) fs))=fs3 at f3 ⊢
  refine⟨Nat.zero_le _,λpl hpl=>?_⟩
  have ntp:t≠pl:=λz=>by rw[←z,za1] at hpl;cases hpl
  have f4:=f3.put (f:="points") (by decide) (.ref pl)
  refine⟨_,rfl,t,Ad.CT,dx,_,rfl,by rw[za6 ntp,za1],T.clCT,T.zap,Nat.lt_of_le_of_lt (f3.lt (by decide)) (by decide),?_⟩
  refine⟨Nat.zero_le _,λrl hrl=>?_⟩
  have ntr:t≠rl:=λz=>by rw[←z,za1] at hrl;cases hrl
  have npr:pl≠rl:=λz=>by rw[←z,za6 (Ne.symm ntp),za1] at hrl;cases hrl
  have f5:=f4.put (f:="retired") (by decide) (.ref rl)
  refine⟨_,rfl,t,Ad.CT,dx,_,rfl,by rw[za6 ntr,za1],T.clCT,T.zdl,Nat.lt_of_le_of_lt (f4.lt (by decide)) (by decide),?_⟩
  have f6:=f5.put (f:="numbers_given") (by decide) (.int 0)
  refine⟨_,rfl,t,Ad.CT,dx,_,rfl,za1,T.clCT,T.zfR,Nat.lt_of_le_of_lt (f5.lt (by decide)) (by decide),?_⟩
  rw[zeJ]
  have hpl0:H pl=none:=by rw[za6 (Ne.symm ntp)] at hpl;exact hpl
  have hrl0:H rl=none:=by rw[za6 (Ne.symm ntr),za6 (Ne.symm npr),za6 (Ne.symm ntr)] at hrl;exact hrl
  refine k _ pl rl (λb o e hb=>?_) hpl0 hrl0 ⟨⟨dx,_,za1,?_⟩,⟨?_,.nil⟩,.nil,⟨[],?_,.nil⟩,List.nodup_nil,?_⟩
  ·have nb:b≠t:=by simpa using hb
   rw[za6 nb,za6 (za7 e hrl0),za6 nb,za6 (za7 e hpl0),za6 nb]
   exact e
  ·subst hfs
   refine⟨?_,?_,?_,?_,?_,zal _ _ _,f6.lt (by decide),?_⟩
   ·exact za3 _ (by decide) (za3 _ (by decide) (za3 _ (by decide) (za3 _ (by decide) (za3 _ (by decide) (zal _ _ _)))))
   ·exact za3 _ (by decide) (za3 _ (by decide) (za3 _ (by decide) (za3 _ (by decide) (zal _ _ _))))
   ·exact za3 _ (by decide) (za3 _ (by decide) (za3 _ (by decide) (zal _ _ _)))
   ·exact za3 _ (by decide) (za3 _ (by decide) (zal _ _ _))
   ·exact za3 _ (by decide) (zal _ _ _)
   ·exact za3 _ (by decide) (za3 _ (by decide) (za3 _ (by decide) (za3 _ (by decide) (za3 _ (by decide) (za3 _ (by decide) noR)))))
  ·show upd _ t _ pl=_
   rw[za6 (Ne.symm ntp),za6 npr,za6 (Ne.symm ntp),za1]
   rfl
  ·show upd _ t _ rl=_
   rw[za6 (Ne.symm ntr),za1]
   rfl
  ·show ([pl,rl]:List Addr).Nodup
   simp[npr]
def zbZ:Stmt:=inClass (top 41) 0
theorem zgT:FnScope ["self","grace","cap"] ["self","grace","cap"] (defScope zbZ):=⟨rfl,rfl,rfl,by decide +kernel,rfl,by decide +kernel,by decide +kernel⟩
def znA (CP CT:Addr):Sp:=λvs H Q _=>∃t dx,∃g c:Nat,vs=[.ref t,nat g,nat c]∧H t=some (.ins CT dx [])∧
 ∀H' pl rl,Kept [t] H H'→H pl=none→H rl=none→TownAt CP CT H' t ⟨pl,rl,[]⟩ { Vbpoan.start with grace:=g,cap:=c }→Q .non H'
theorem zqp (D:InitIn (K:=K) Ad.CT "Town.__init__" zbZ ["self","grace","cap"]) (T:Txt K mg Ad) (zg8:CallableM P w K mg base 1 Ad.CT "renew" ["self","grace","cap"] (zjm Ad.CP Ad.CT)) :
  MakesIn P w K mg base 2 Ad.CT ["self","grace","cap"] (znA Ad.CP Ad.CT):=by
 refine D.ok (k:=1) zgT (λvs H Q E h=>?_) (λf cdv A outer s H vs Q E hr h=>?_)
 ·obtain⟨t,dx,g,c,rfl,_⟩:=h;rfl
 ·obtain⟨t,dx,g,c,rfl,ht,k⟩:=h
  refine⟨_,(za5 (zaA (pe_mt zg8 T.clCT (hr.mono (by decide)) passN (pv 0) (za0 (pv 1) (za0 (pv 2) za4))))),?_⟩
  refine⟨_,rfl,t,dx,_,rfl,ht,rfl,_,rfl,_,rfl,t,dx,[],g,c,rfl,ht,.inl (Nat.le_refl 0),rfl,λH' pl rl k1 n1 n2 tw=>?_⟩
  exact k H' pl rl k1 n1 n2 tw
end
end Pd
end
section
namespace Pd
open PySem PySem.Spec PyProof.Rows L2
open Vbpoan (State Point Old Retired codesOf loadsOf isFree pointOf inside spread nsum)
theorem zeM {α:Type} (x:α):∀k:Nat,(List.replicate k [x]).flatten=List.replicate k x
 | 0=>rfl
 | k+1=>by rw[List.replicate_succ,List.flatten_cons,zeM x k];rfl
theorem zhK (l:List Nat):natL l=(Vbpoan.ints l).map V.int:=by
 unfold natL Vbpoan.ints;rw[List.map_map];rfl
theorem sum_ints:∀l:List Nat,(Vbpoan.ints l).sum=((nsum l:Nat):Int)
 | []=>rfl
 | a::l=>by
  show ((a:Int)::Vbpoan.ints l).sum=_
  rw[List.sum_cons,sum_ints l,zc1];omega
theorem zoG (xs:List V) {a b:Nat} (h:a≤b):cutV xs (some (a:Int)) (some (b:Int))=(xs.drop a).take (b - a):=by
 unfold cutV
 rw[HT.zlr,HT.zlr]
 by_cases h1:b≤xs.length
 ·rw[Nat.min_eq_left h1,Nat.min_eq_left (by omega)]
 ·rw[Nat.min_eq_right (by omega)]
  by_cases h2:a≤xs.length
  ·rw[Nat.min_eq_left h2,List.take_of_length_le (by rw[List.length_drop];omega),List.take_of_length_le (by rw[List.length_drop];omega)]
  ·rw[Nat.min_eq_right (by omega),List.drop_of_length_le (Nat.le_refl _),List.drop_of_length_le (by omega)]
   simp
theorem zhl (ds:List (Nat×Nat)) (i:Nat):(spread (ds.take i)).length≤(spread ds).length:=by
 conv=>rhs;rw[←List.take_append_drop i ds,zff,List.length_append]
 omega
theorem zlu {ts:List Addr} {ds:List (Nat×Nat)} {H:Hp} (tps:TupsAt H ts (ds.map pairV)) {i:Nat} {t:Addr} (h:ts[i]?=some t):∃n c,ds[i]?=some (n,c)∧H t=some (.tup [nat n,nat c]):=by
 obtain⟨xs,e2,e3⟩:=Paired.get1 tps h
 rw[List.getElem?_map] at e2
 cases er:ds[i]? with
 | none=>rw[er] at e2;cases e2
 | some x =>
  rw[er] at e2
  have e2:=Option.some.inj e2
  subst e2
  exact⟨x.1,x.2,rfl,e3⟩
section
variable {P:Program} {w:World} {K:PySem.W.Frag} {mg:Str→Option Value} {base:Heap} {Ad:Adr}
def zbF:Stmt:=top 26
theorem zbm:FnScope ["districts","codes","size","code"] ["districts"] (defScope zbF):=⟨rfl,rfl,rfl,by decide +kernel,rfl,by decide +kernel,by decide +kernel⟩
def zc6:Sp:=λvs H Q _=>∃l ds,vs=[.ref l]∧RowsAt H l (ds.map pairV)∧(spread ds).length≤1000∧∀H' p,Same H H'→H p=none→H' p=some (.lst (natL (spread ds)))→Q (.ref p) H'
theorem zfZ (D:DefIn K mg "codes_by_point" zbF ["districts"]) (T:Txt K mg Ad):Callable P w K mg base 1 "codes_by_point" ["districts"] zc6:=by
 refine D.ok (k:=0) zbm (λvs H Q E h=>?_) (λf cdv A outer s H vs Q E hr h=>?_)
 ·obtain⟨l,ds,rfl,_⟩:=h;rfl
 ·obtain⟨l,ds,rfl,⟨ts,hts,tps⟩,hlen,k⟩:=h
  have line:sizeLine=16777216:=sizeLine_eq
  have htl:ts.length=(ds.map pairV).length:=Paired.length tps
  rw[List.length_map] at htl
  refine⟨_,(za2 (zah (i:=1) zbm.nd rfl (by first|exact Or.inl rfl|exact Or.inr rfl) (zas za4))
   (za2 (zbB ownP rfl (zaE (pv 0)) (zgJ (n:=2) rfl (zax (zaj (i:=2) zbm.nd rfl (by first|exact Or.inl rfl|exact Or.inr rfl)) (zax (zaj (i:=3) zbm.nd rfl (by first|exact Or.inl rfl|exact Or.inr rfl)) zde))) (za5 (zaA (pe_bm PySem.F.plainAttrs_list PySem.F.slot_list_extend PySem.F.type_list_extend zhL (pv 1) (za0 (pe_op zr2 (zas (za0 (pv 3) za4)) (pv 2)) za4)))))
   (za5 (zac (pv 1))))),?_⟩
  refine⟨Nat.zero_le _,λc hc=>?_⟩
  have s0:Same H (upd H c (.lst [])):=za8 hc
  refine⟨_,rfl,l,rfl,⟨_,SqL.of (s0 _ _ hts)⟩,zb0 (K:=K) (a:=l) (xs:=ts.map V.ref) (λi σ H'=>∃u v,σ=[some (.ref l),some (.ref c),u,v]∧Same H H'∧H' c=some (.lst (natL (spread (ds.take i)))))
   ⟨none,none,rfl,s0,za1⟩ (λi σ H' _ ⟨_,_,_,s1,_⟩=>SqL.of (s1 _ _ hts)) ?_ ?_⟩
  ·rintro i y σ H' hi ⟨u,v,rfl,s1,hc1⟩
   obtain⟨tt,e1,rfl⟩:=zgF hi
   obtain⟨n,cd,e2,e3⟩:=zlu tps e1
   have et:spread (ds.take (i+1))=spread (ds.take i)++List.replicate n cd:=by rw[zau e2,zff,zaB];simp[spread]
   have hl2:=zhl ds (i+1)
   rw[et,List.length_append,List.length_replicate] at hl2
   refine⟨tt,_,rfl,SqT.of (s1 _ _ e3),rfl,_,_,rfl,_,_,rfl,rfl,?_⟩
   refine⟨_,rfl,.inl ⟨rfl,_,SqL.of hc1⟩,_,rfl,(by show 1≤sizeLine;decide),λq hq=>?_⟩
   refine⟨_,rfl,q,_,_,rfl,rfl,za1,by omega,by omega,by show 1 * ((n:Int)).toNat≤sizeLine;rw[Int.toNat_natCast];omega,λp hp=>?_⟩
   have ncq:c≠q:=za7 hc1 hq
   have ncp:c≠p:=λz=>by rw[←z,za6 ncq,hc1] at hp;cases hp
   refine⟨c,p,_,_,rfl,rfl,by rw[za6 ncp,za6 ncq];exact hc1,za1,?_,?_⟩
   ·rw[zeM,List.length_replicate,Int.toNat_natCast,List.length_map];omega
   ·refine⟨_,_,rfl,λb o e=>?_,?_⟩
    ·have e':=s1 _ _ e
     have nbq:b≠q:=za7 e' hq
     have nbp:b≠p:=λz=>by rw[←z,za6 nbq,e'] at hp;cases hp
     rw[za6 (za7 e hc),za6 nbp,za6 nbq]
     exact e'
    ·rw[za1,zeM,Int.toNat_natCast,et]
     unfold natL
     rw[List.map_append,List.map_replicate]
  ·rintro σ H' ⟨u,v,rfl,s1,hc1⟩
   rw[List.length_map,htl,List.take_length] at hc1
   exact⟨_,rfl,k H' c s1 hc hc1⟩
def zck:Stmt:=top 27
theorem zbT:FnScope ["points","districts","codes","point","code"] ["points","districts"] (defScope zck):=⟨rfl,rfl,rfl,by decide +kernel,rfl,by decide +kernel,by decide +kernel⟩
theorem zh7:BlkOk ["points","districts","codes","point","code"] (defScope zck) { kind:=.function,names:=[(PySem.Str.ofString ".0",.local),(PySem.Str.ofString "point",.local),(PySem.Str.ofString "code",.local)],isGenerator:=false,isCoroutine:=false,more:=[] } [("point",3),("code",4)]:=⟨rfl,by decide +kernel,by decide +kernel,by decide +kernel,by decide +kernel⟩
def zcx (CP:Addr):Sp:=λvs H Q _=>∃pl as pts l ds,vs=[.ref pl,.ref l]∧PtsAt CP H pl as pts∧RowsAt H l (ds.map pairV)∧(spread ds).length≤1000∧
 ∀H',Same H H'→Q (nat (keptC (pts.map (·.code)) (spread ds))) H'
theorem zjD (D:DefIn K mg "count_kept" zck ["points","districts"]) (T:Txt K mg Ad) (zaT:Callable P w K mg base 1 "codes_by_point" ["districts"] zc6) :
  Callable P w K mg base 2 "count_kept" ["points","districts"] (zcx Ad.CP):=by
 refine D.ok (k:=1) zbT (λvs H Q E h=>?_) (λf cdv A outer s H vs Q E hr h=>?_)
 ·obtain⟨pl,as,pts,l,ds,rfl,_⟩:=h;rfl
 ·obtain⟨pl,as,pts,l,ds,rfl,hp,hr',hlen,k⟩:=h
  have line:sizeLine=16777216:=sizeLine_eq
  have hl:=hp.len
  refine⟨_,(za2 (zah (i:=2) zbT.nd rfl (by first|exact Or.inl rfl|exact Or.inr rfl) (pe_fn zaT (hr.mono (by decide)) rfl passN (za0 (pv 1) za4)))
   (za5 (zac (zai zaa rfl T.b_len PySem.boot_len (za0 (pe_lc rfl zbT.nd (zpY rfl T.b_zip (za0 (pv 0) (za0 (pv 2) za4))) zh7 (λ_ _ _ _ _=>by exact(zls (K:=K) (n:=2) rfl rfl (zax (zaj (i:=3) zbT.nd rfl (by first|exact Or.inl rfl|exact Or.inr rfl)) (zax (zaj (i:=4) zbT.nd rfl (by first|exact Or.inl rfl|exact Or.inr rfl)) zde)))) (λ_ _ _ _ _=>by exact zeN (zaf op_eq (pv 4) (zdG (K:=K) rfl (pv 3) rfl) (nomark _))) (λ_ _ _ _ _=>by exact(pv 4))) za4))))),?_⟩
  refine⟨_,rfl,l,ds,rfl,hr',hlen,λH1 c s1 n1 hc=>?_⟩
  refine⟨_,rfl,_,rfl,pl,c,_,_,rfl,SqL.of (s1 _ _ hp.lst),SqL.of hc,zr4 (K:=K) (a:=pl) (b:=c) (xs:=as.map λx=>V.ref x.1) (zs:=natL (spread ds)) ((pts.map (·.code)).zip (spread ds)) (λx=>if (x.2 == x.1)=true then some (nat x.2) else none)
   (SqL.of (s1 _ _ hp.lst)) (SqL.of hc) (by rw[List.length_zip,List.length_map,List.length_map,List.length_map,hl]) (by rw[List.length_zip];omega) ?_ ?_⟩
  ·intro i x z y TT hx hz hy H' s2 hT R hR
   obtain⟨a,ha,rfl⟩:=pt_at hx
   obtain⟨n,hn,rfl⟩:=zgL hz
   obtain⟨p,hpp,dx,fs,e,F⟩:=Paired.get1 hp.pt ha
   have ey:y=(p.code,n):=by
    have e2:((pts.map (·.code)).zip (spread ds))[i]?=some (p.code,n):=by
     rw[List.getElem?_zip_eq_some]
     exact⟨by rw[List.getElem?_map,hpp];rfl,hn⟩
    rw[e2] at hy
    exact(Option.some.inj hy).symm
   subst ey
   have hR:=hR H' (Same.refl _)
   refine⟨TT,_,rfl,SqT.of hT,rfl,_,_,rfl,_,_,rfl,rfl,rfl,?_⟩
   refine⟨_,rfl,_,rfl,a.1,Ad.CP,dx,fs,_,rfl,s2 _ _ (s1 _ _ e),T.clCP,T.zb2,F.code,rfl,_,rfl,ite2 (λhc=>?_) (λhc=>?_)⟩
   ·rw[if_pos (by exact beq_iff_eq.mpr (zaQ.mp hc))] at hR
    exact⟨_,rfl,hR⟩
   ·rw[if_neg (λz=>hc (zaQ.mpr (eq_of_beq z)))] at hR
    exact hR
  ·intro H2 q s2 n2 hq
   rw[fm_if (λx:Nat×Nat=>x.2 == x.1) (λx=>nat x.2)] at hq
   refine⟨q,_,rfl,.inl (SqL.of hq),?_⟩
   rw[List.length_map]
   exact k H2 (Same.trans s1 s2)
def zb9:Stmt:=top 28
theorem zeo:FnScope ["points","sizes"] ["points","sizes"] (defScope zb9):=⟨rfl,rfl,rfl,by decide +kernel,rfl,by decide +kernel,by decide +kernel⟩
def zcv:Sp:=λvs H Q _=>∃pl xs l sizes,vs=[.ref pl,.ref l]∧H pl=some (.lst xs)∧H l=some (.lst (natL sizes))∧Q (.bl (!(sizes.contains 0) && decide (nsum sizes=xs.length))) H
theorem zeq (D:DefIn K mg "are_all_points_in" zb9 ["points","sizes"]) (T:Txt K mg Ad):Callable P w K mg base 1 "are_all_points_in" ["points","sizes"] zcv:=by
 refine D.ok (k:=0) zeo (λvs H Q E h=>?_) (λf cdv A outer s H vs Q E hr h=>?_)
 ·obtain⟨pl,xs,l,sizes,rfl,_⟩:=h;rfl
 ·obtain⟨pl,xs,l,sizes,rfl,hp,hl,k⟩:=h
  refine⟨_,(za5 (zac (zmn (zfW ze4 zae (pv 1) (by with_unfolding_all rfl)) (zkw (zfW op_eq (zai (zig rfl) rfl T.b_sum zii (za0 (pv 1) za4)) (zai zaa rfl T.b_len PySem.boot_len (za0 (pv 0) za4)) (nomark _)))))),?_⟩
  refine⟨_,rfl,l,_,rfl,.inl (SqL.of hl),rfl,zfF _,!(sizes.contains 0),zhH sizes 0,ite2 (λhc=>?_) (λhc=>?_)⟩
  ·rw[hc,Bool.true_and] at k
   refine⟨_,rfl,l,Vbpoan.ints sizes,rfl,SqL.of (by rw[←zhK];exact hl),_,rfl,pl,xs,rfl,.inl (SqL.of hp),rfl,?_⟩
   have e:decide (V.int (Vbpoan.ints sizes).sum=V.int (xs.length:Int))=decide (nsum sizes=xs.length):=by
    rw[sum_ints,decide_eq_decide]
    constructor
    ·intro z;injection z with z;omega
    ·intro z;rw[z]
   have k:=e ▸ k
   exact k
  ·have hc:(!(sizes.contains 0))=false:=by simpa using hc
   rw[hc,Bool.false_and] at k
   exact k
def zbX:Stmt:=top 29
theorem zbD:FnScope ["town","codes","codes_had","withheld","code"] ["town","codes"] (defScope zbX):=⟨rfl,rfl,rfl,by decide +kernel,rfl,by decide +kernel,by decide +kernel⟩
theorem zqt (m:List Int):∀acc:List Int,acc.Nodup→((m.foldl step_dedup acc).length≤acc.length+m.length∧((m.foldl step_dedup acc).length=acc.length+m.length↔(acc++m).Nodup)):=by
 induction m with
 | nil=>intro acc h;simp[h]
 | cons a m ih =>
  intro acc h
  rw[List.foldl_cons]
  by_cases hm:a∈acc
  ·have e:step_dedup acc a=acc:=by unfold step_dedup;have q:(acc.any λx=>x == a)=true:=List.any_eq_true.mpr ⟨a,hm,beq_self_eq_true a⟩;exact if_pos q
   rw[e]
   obtain⟨i1,i2⟩:=ih acc h
   refine⟨by simp only[List.length_cons];omega,?_⟩
   constructor
   ·intro z;simp only[List.length_cons] at z;omega
   ·intro z
    exact absurd rfl ((List.nodup_append.mp z).2.2 a hm a List.mem_cons_self)
  ·have e:step_dedup acc a=acc++[a]:=by
    unfold step_dedup
    exact if_neg (λz=>by
     obtain⟨x,hx,q⟩:=List.any_eq_true.mp z
     rw[eq_of_beq q] at hx
     exact hm hx)
   have h':(acc++[a]).Nodup:=List.nodup_append.mpr ⟨h,by simp,λx hx y hy e=>hm (by rw[List.mem_singleton.mp hy] at e;rw[←e];exact hx)⟩
   rw[e]
   obtain⟨i1,i2⟩:=ih (acc++[a]) h'
   rw[List.length_append,List.length_singleton] at i1 i2
   simp only[List.length_cons]
   refine⟨by omega,?_⟩
   rw[show acc++a::m=acc++[a]++m by simp,←i2]
   constructor<;>intro z<;>omega
theorem zj7:∀{l:List Nat},(Vbpoan.ints l).Nodup↔l.Nodup
 | []=>by simp[Vbpoan.ints]
 | a::l=>by
  show ((a:Int)::Vbpoan.ints l).Nodup↔_
  rw[List.nodup_cons,List.nodup_cons,zj7]
  have:(a:Int)∈Vbpoan.ints l↔a∈l:=by
   unfold Vbpoan.ints
   rw[List.mem_map]
   constructor
   ·rintro ⟨x,hx,e⟩
    have:x=a:=by omega
    rw[←this];exact hx
   ·intro h;exact⟨a,h,rfl⟩
  rw[this]
theorem zo0 (codes:List Nat):(firstMet (λi=>(Vbpoan.ints codes).getD i 0) (Vbpoan.ints codes).length).length < codes.length↔¬ codes.Nodup:=by
 unfold firstMet
 have e:(List.range (Vbpoan.ints codes).length).map (λi=>(Vbpoan.ints codes).getD i 0)=Vbpoan.ints codes:=by
  apply List.ext_getElem
  ·simp
  ·intro i h1 h2
   simp at h1
   simp[h1]
 rw[e]
 obtain⟨i1,i2⟩:=zqt (Vbpoan.ints codes) [] List.nodup_nil
 rw[List.length_nil,ints_length,List.nil_append] at i2
 rw[List.length_nil,ints_length] at i1
 rw[←zj7,←i2]
 omega
def zdQ (CP CT:Addr):Sp:=λvs H Q _=>∃t L s n l codes,vs=[.ref t,.ref l]∧TownAt CP CT H t L s∧Good n s∧n≤401∧H l=some (.lst (natL codes))∧codes.length≤1000∧∀H',Same H H'→Q (.bl (fitB s codes)) H'
theorem zgX (D:DefIn K mg "are_codes_fit" zbX ["town","codes"]) (T:Txt K mg Ad) (zav:Callable P w K mg base 1 "codes_of" ["points"] (zbM Ad.CP))
  (zaS:Callable P w K mg base 3 "withheld_codes" ["town"] (zc5 Ad.CP Ad.CT)) (zbf:Callable P w K mg base 1 "may_be_given" ["code","withheld"] zcM) :
  Callable P w K mg base 4 "are_codes_fit" ["town","codes"] (zdQ Ad.CP Ad.CT):=by
 refine D.ok (k:=3) zbD (λvs H Q E h=>?_) (λf cdv A outer s H vs Q E hr h=>?_)
 ·obtain⟨t,L,s,n,l,codes,rfl,_⟩:=h;rfl
 ·obtain⟨t,L,st,n,l,codes,rfl,tw,G,hn,hl,hlen,k⟩:=h
  have line:sizeLine=16777216:=sizeLine_eq
  obtain⟨dt,fs,et,F⟩:=tw.tw
  refine⟨_,(za2 (ps_if (zaf op_lt (zai zoO rfl T.b_len PySem.boot_len (za0 (zkx (zoL rfl) rfl T.b_set zoR (za0 (pv 1) za4)) za4)) (zai zaa rfl T.b_len PySem.boot_len (za0 (pv 1) za4)) (nomark _)) (za5 (zac pe_bl)) zag)
   (za2 (zah (i:=2) zbD.nd rfl (by first|exact Or.inl rfl|exact Or.inr rfl) (pe_fn zav (hr.mono (by decide)) rfl passN (za0 (zab (pv 0) rfl) za4)))
   (za2 (zah (i:=3) zbD.nd rfl (by first|exact Or.inl rfl|exact Or.inr rfl) (pe_fn zaS (hr.mono (by decide)) rfl passN (za0 (pv 0) za4)))
   (za2 (zbB ownP rfl (zaE (pv 1)) (zaj (i:=4) zbD.nd rfl (by first|exact Or.inl rfl|exact Or.inr rfl)) (za5 (ps_if (PW.pt (zmk (zaf ze4 (pv 4) (pv 2) (by with_unfolding_all rfl)) (zjw (zkp (zgH (pe_fn zbf (hr.mono (by decide)) rfl passN (za0 (pv 4) (za0 (pv 3) za4)))))))) (za5 (zac pe_bl)) zag)))
   (za5 (zac pe_bl)))))),?_⟩
  refine⟨_,rfl,l,Vbpoan.ints codes,rfl,SqL.of (by rw[←zhK];exact hl),by rw[ints_length];show codes.length+1 < 4096;omega,λa S ha=>?_⟩
  have s0:∀o:HO,Same H (upd H a o):=λo=>za8 ha
  have hm:=firstMet_length_le (λi=>(Vbpoan.ints codes).getD i 0) (Vbpoan.ints codes).length
  rw[ints_length] at hm
  refine⟨a,S,_,rfl,za1,by rw[ints_length];omega,_,rfl,l,_,rfl,.inl (SqL.of (s0 _ _ _ hl)),_,_,rfl,rfl,_,rfl,?_⟩
  rw[List.length_map]
  have hmn:=zo0 codes
  refine ite2 (λhc=>?_) (λhc=>?_)
  ·have hc:=of_decide_eq_true hc
   have:fitB st codes=false:=by
    unfold fitB
    rw[decide_eq_false (hmn.mp (by omega)),Bool.false_and]
   rw[this] at k
   exact k _ (s0 _)
  ·have hnd:codes.Nodup:=by
    by_cases z:codes.Nodup
    ·exact z
    ·exact absurd (decide_eq_true (by have:=hmn.mpr z;omega)) hc
   have efit:fitB st codes=codes.all λc=>(codesD (codesOf st)).contains c || mayGive st c:=by
    unfold fitB
    rw[decide_eq_true hnd,Bool.true_and]
   refine⟨_,rfl,t,Ad.CT,dt,fs,_,rfl,s0 _ _ _ et,T.clCT,T.zap,F.points,L.pl,L.ps,st.points,rfl,tw.pts.same (s0 _),G.len,λH1 ch s1 n1 hch=>?_⟩
   have sH1:Same H H1:=Same.trans (s0 _) s1
   refine⟨_,rfl,t,L,st,n,rfl,tw.same sH1,G,hn,λH2 d s2 n2 hd=>?_⟩
   have sH2:Same H H2:=Same.trans sH1 s2
   refine⟨_,rfl,l,rfl,⟨_,SqL.of (sH2 _ _ hl)⟩,zb0 (K:=K) (a:=l) (xs:=natL codes)
    (λi σ H'=>∃v,σ=[some (.ref t),some (.ref l),some (.ref ch),some (.ref d),v]∧H'=H2∧∀j c,j < i→codes[j]?=some c→((codesD (codesOf st)).contains c || mayGive st c)=true)
    ⟨none,rfl,rfl,λj c hj=>by omega⟩ (λi σ H' _ ⟨_,_,e,_⟩=>by rw[e];exact SqL.of (sH2 _ _ hl)) ?_ ?_⟩
   ·rintro i y σ H' hi ⟨v,rfl,rfl,hall⟩
    obtain⟨c,hc,rfl⟩:=zgL hi
    have next:((codesD (codesOf st)).contains c || mayGive st c)=true→∀j c',j < i+1→codes[j]?=some c'→((codesD (codesOf st)).contains c' || mayGive st c')=true:=λz j c' hj hc'=>by
     by_cases e:j=i
     ·subst e
      rw[hc] at hc'
      cases hc'
      exact z
     ·exact hall j c' (by omega) hc'
    refine⟨_,rfl,_,rfl,ch,_,rfl,.inl (SqL.of (s2 _ _ hch)),rfl,zfF _,!(codesD (codesOf st)).contains c,zhH _ _,ite2 (λh1=>?_) (λh1=>?_)⟩
    ·have h1:(codesD (codesOf st)).contains c=false:=by simpa using h1
     refine⟨_,rfl,_,rfl,d,st,c,rfl,hd,_,rfl,?_⟩
     refine ite2 (λh2=>?_) (λh2=>?_)
     ·have h2:mayGive st c=false:=by simpa using h2
      have e:fitB st codes=false:=by
       rw[efit,Bool.eq_false_iff]
       intro z
       have:=List.all_eq_true.mp z c (List.mem_of_getElem? hc)
       rw[h1,h2] at this
       cases this
      rw[e] at k
      exact k _ sH2
     ·have h2:mayGive st c=true:=by simpa using h2
      exact⟨_,rfl,rfl,next (by rw[h2,Bool.or_true])⟩
    ·have h1:(codesD (codesOf st)).contains c=true:=by simpa using h1
     exact iteF ⟨_,rfl,rfl,next (by rw[h1,Bool.true_or])⟩
   ·rintro σ H' ⟨v,rfl,rfl,hall⟩
    rw[List.length_map] at hall
    have e:fitB st codes=true:=by
     rw[efit,List.all_eq_true]
     intro c hc
     obtain⟨j,hj⟩:=List.getElem?_of_mem hc
     exact hall j c (List.getElem?_eq_some_iff.mp hj).1 hj
    rw[e] at k
    exact k _ sH2
def zb5:Stmt:=top 30
theorem zaF:FnScope ["points","sizes","cap","start","size","point"] ["points","sizes","cap"] (defScope zb5):=⟨rfl,rfl,rfl,by decide +kernel,rfl,by decide +kernel,by decide +kernel⟩
theorem zee:BlkOk ["points","sizes","cap","start","size","point"] (defScope zb5) { kind:=.function,names:=[(PySem.Str.ofString ".0",.local),(PySem.Str.ofString "point",.local)],isGenerator:=false,isCoroutine:=false,more:=[] } [("point",5)]:=⟨rfl,by decide +kernel,by decide +kernel,by decide +kernel,by decide +kernel⟩
def zcZ (CP:Addr):Sp:=λvs H Q _=>∃pl as pts l sizes,∃cap:Nat,vs=[.ref pl,.ref l,nat cap]∧PtsAt CP H pl as pts∧pts.length≤40∧H l=some (.lst (natL sizes))∧∀H',Same H H'→Q (.bl (borne cap (pts.map (·.load)) sizes)) H'
theorem zfA (D:DefIn K mg "are_loads_borne" zb5 ["points","sizes","cap"]) (T:Txt K mg Ad):Callable P w K mg base 1 "are_loads_borne" ["points","sizes","cap"] (zcZ Ad.CP):=by
 refine D.ok (k:=0) zaF (λvs H Q E h=>?_) (λf cdv A outer s H vs Q E hr h=>?_)
 ·obtain⟨pl,as,pts,l,sizes,cap,rfl,_⟩:=h;rfl
 ·obtain⟨pl,as,pts,l,sizes,cap,rfl,hp,h40,hl,k⟩:=h
  have line:sizeLine=16777216:=sizeLine_eq
  have hlp:=hp.len
  refine⟨_,(za2 (zah (i:=3) zaF.nd rfl (by first|exact Or.inl rfl|exact Or.inr rfl) zae)
   (za2 (zbB ownP rfl (zaE (pv 1)) (zaj (i:=4) zaF.nd rfl (by first|exact Or.inl rfl|exact Or.inr rfl)) (za2 (ps_if (zaf op_gt (zai (zig rfl) rfl T.b_sum zii (za0 (pe_lc rfl zaF.nd (zaE (zhe zjo (pv 0) (zfV (pv 3)) (zfV (pe_op zcm (pv 3) (pv 4))))) zee (λ_ _ _ _ _=>by exact(zaj (i:=5) zaF.nd rfl (by first|exact Or.inl rfl|exact Or.inr rfl))) (λ_ _ _ _ _=>by exact zjx) (λ_ _ _ _ _=>by exact(zdG (K:=K) rfl (pv 5) rfl))) za4)) (pv 2) (nomark _)) (za5 (zac pe_bl)) zag)
   (za5 (znH (i:=3) zaF.nd rfl (by first|exact Or.inl rfl|exact Or.inr rfl) (pv 4) zoe))))
   (za5 (zac pe_bl)))),?_⟩
  refine⟨_,rfl,l,rfl,⟨_,SqL.of hl⟩,zb0 (K:=K) (a:=l) (xs:=natL sizes)
   (λi σ H'=>∃v u,σ=[some (.ref pl),some (.ref l),some (nat cap),some (nat (nsum (sizes.take i))),v,u]∧Same H H'∧∀j n,j < i→sizes[j]?=some n→nsum (((pts.map λp:Point=>p.load).drop (nsum (sizes.take j))).take n)≤cap)
   ⟨none,none,rfl,Same.refl _,λj n hj=>by omega⟩ (λi σ H' _ ⟨_,_,_,s1,_⟩=>SqL.of (s1 _ _ hl)) ?_ ?_⟩
  ·rintro i y σ H' hi ⟨v,u,rfl,s1,hall⟩
   obtain⟨n,hn,rfl⟩:=zgL hi
   have est:nsum (sizes.take (i+1))=nsum (sizes.take i)+n:=by rw[zau hn,zdH];rfl
   refine⟨_,rfl,_,rfl,_,rfl,_,rfl,_,rfl,_,_,rfl,rfl,_,rfl,pl,_,rfl,SqL.of (s1 _ _ hp.lst),λq hq=>?_⟩
   have ecut:cutV (as.map λx=>V.ref x.1) (some ((nsum (sizes.take i):Nat):Int)) (some (((nsum (sizes.take i):Nat):Int)+(n:Int)))=(((as.drop (nsum (sizes.take i))).take n).map λx=>V.ref x.1):=by
    rw[show ((nsum (sizes.take i):Nat):Int)+(n:Int)=((nsum (sizes.take i)+n:Nat):Int) by omega,zoG _ (by omega),List.map_take,List.map_drop]
    congr 1
    omega
   rw[ecut]
   have hq':=hq
   refine⟨q,rfl,⟨_,SqL.of za1⟩,ze5 (K:=K) (a:=q) (xs:=((as.drop (nsum (sizes.take i))).take n).map λx=>V.ref x.1) ((pts.drop (nsum (sizes.take i))).take n) (λp=>some (nat p.load)) (SqL.of za1) ?_ ?_ ?_ ?_⟩
   ·rw[List.length_map,List.length_take,List.length_drop,List.length_take,List.length_drop,hlp]
   ·rw[List.length_take,List.length_drop];omega
   ·intro j x p hx hpj H2 s2 R hR
    obtain⟨a,ha,rfl⟩:=pt_at hx
    obtain⟨p',hp',dx,fs,e,F⟩:=Paired.get1 (Paired.tk n (Paired.dr (nsum (sizes.take i)) hp.pt)) ha
    rw[hpj] at hp'
    cases hp'
    refine⟨rfl,?_⟩
    refine iteT (B:=R none H2) ⟨_,rfl,a.1,Ad.CP,dx,fs,_,rfl,s2 _ _ (za8 hq _ _ (s1 _ _ e)),T.clCP,T.zfw,F.load,hR H2 (Same.refl _)⟩
   ·intro H2 z s2 n2 hz
    rw[zos] at hz
    have sH2:Same H H2:=Same.trans s1 (Same.trans (za8 hq) s2)
    have ez:(((pts.drop (nsum (sizes.take i))).take n).map λp=>nat p.load)=(Vbpoan.ints (((pts.map λp:Point=>p.load).drop (nsum (sizes.take i))).take n)).map V.int:=by
     unfold Vbpoan.ints;rw[←List.map_drop,←List.map_take,List.map_map,List.map_map];rfl
    rw[ez] at hz
    refine⟨z,_,rfl,SqL.of hz,_,rfl,_,_,rfl,rfl,_,rfl,?_⟩
    rw[sum_ints]
    refine ite2 (λhc=>?_) (λhc=>?_)
    ·have hc:=of_decide_eq_true hc
     have e:borne cap (pts.map (·.load)) sizes=false:=zoQ hn (by omega)
     rw[e] at k
     exact k _ sH2
    ·have hc:¬ (cap:Int) < ((nsum (((pts.map λp:Point=>p.load).drop (nsum (sizes.take i))).take n):Nat):Int):=λz=>hc (decide_eq_true z)
     refine⟨_,rfl,_,rfl,_,_,rfl,rfl,some (nat n),u,?_,sH2,λj m hj hm=>?_⟩
     ·rw[est]
      rfl
     ·by_cases e:j=i
      ·subst e
       rw[hn] at hm
       cases hm
       omega
      ·exact hall j m (by omega) hm
  ·rintro σ H' ⟨v,u,rfl,s1,hall⟩
   rw[List.length_map] at hall
   have e:borne cap (pts.map (·.load)) sizes=true:=zno λj n hn=>hall j n (List.getElem?_eq_some_iff.mp hn).1 hn
   rw[e] at k
   exact k _ s1
def zeg:Stmt:=top 31
theorem zlp:FnScope ["town","sizes","codes"] ["town","sizes","codes"] (defScope zeg):=⟨rfl,rfl,rfl,by decide +kernel,rfl,by decide +kernel,by decide +kernel⟩
def zhp (CP CT:Addr):Sp:=λvs H Q _=>∃t L s n a b sizes codes,vs=[.ref t,.ref a,.ref b]∧TownAt CP CT H t L s∧Good n s∧n≤401∧H a=some (.lst (natL sizes))∧H b=some (.lst (natL codes))∧codes.length≤1000∧∀H',Same H H'→Q (.bl (Vbpoan.mayBe s sizes codes)) H'
theorem zlz (D:DefIn K mg "might_be" zeg ["town","sizes","codes"]) (T:Txt K mg Ad) (zbO:Callable P w K mg base 1 "are_all_points_in" ["points","sizes"] zcv)
  (zcW:Callable P w K mg base 4 "are_codes_fit" ["town","codes"] (zdQ Ad.CP Ad.CT)) (zcb:Callable P w K mg base 1 "are_loads_borne" ["points","sizes","cap"] (zcZ Ad.CP)) :
  Callable P w K mg base 5 "might_be" ["town","sizes","codes"] (zhp Ad.CP Ad.CT):=by
 refine D.ok (k:=4) zlp (λvs H Q E h=>?_) (λf cdv A outer s H vs Q E hr h=>?_)
 ·obtain⟨t,L,s,n,a,b,sizes,codes,rfl,_⟩:=h;rfl
 ·obtain⟨t,L,st,n,a,b,sizes,codes,rfl,tw,G,hn,ha,hb,hlen,k⟩:=h
  obtain⟨dt,fs,et,F⟩:=tw.tw
  have hlp:=tw.pts.len
  have em:=zpx G.codes sizes codes
  rw[em] at k
  refine⟨_,(za2 (ps_if (PW.pt (pw_or (zaf op_ne (zai zaa rfl T.b_len PySem.boot_len (za0 (pv 1) za4)) (zai zaa rfl T.b_len PySem.boot_len (za0 (pv 2) za4)) (nomark _)) (zhv (zkp (zgH (pe_fn zbO (hr.mono (by decide)) rfl passN (za0 (zab (pv 0) rfl) (za0 (pv 1) za4)))))))) (za5 (zac pe_bl)) zag)
   (za5 (zac (zmn (pe_fn zcW (hr.mono (by decide)) rfl passN (za0 (pv 0) (za0 (pv 2) za4))) (zkw (pe_fn zcb (hr.mono (by decide)) rfl passN (za0 (zab (pv 0) rfl) (za0 (pv 1) (za0 (zab (pv 0) rfl) za4))))))))),?_⟩
  refine⟨_,rfl,a,_,rfl,.inl (SqL.of ha),_,rfl,b,_,rfl,.inl (SqL.of hb),rfl,_,rfl,?_⟩
  rw[List.length_map,List.length_map]
  refine ite2 (λhc=>?_) (λhc=>?_)
  ·have hc:=zkL hc
   rw[decide_eq_false hc,Bool.false_and] at k
   exact iteT (k H (Same.refl _))
  ·have hc:=zkM hc
   rw[decide_eq_true hc,Bool.true_and] at k
   refine⟨_,rfl,t,Ad.CT,dt,fs,_,rfl,et,T.clCT,T.zap,F.points,_,rfl,L.pl,_,a,sizes,rfl,tw.pts.lst,ha,_,rfl,?_⟩
   rw[List.length_map,hlp]
   refine ite2 (λh1=>?_) (λh1=>?_)
   ·have h1:allIn st sizes=false:=by
     unfold allIn
     cases q:(!(sizes.contains 0) && decide (nsum sizes=st.points.length)) with
     | false=>rfl
     | true=>rw[q] at h1;cases h1
    rw[h1,Bool.false_and] at k
    exact k H (Same.refl _)
   ·have h1:allIn st sizes=true:=by
     unfold allIn
     cases q:(!(sizes.contains 0) && decide (nsum sizes=st.points.length)) with
     | true=>rfl
     | false=>rw[q] at h1;exact absurd rfl h1
    rw[h1,Bool.true_and] at k
    refine⟨_,rfl,_,rfl,t,L,st,n,b,codes,rfl,tw,G,hn,hb,hlen,λH1 s1=>⟨_,rfl,?_⟩⟩
    refine ite2 (λh2=>?_) (λh2=>?_)
    ·rw[h2,Bool.true_and] at k
     refine⟨_,rfl,t,Ad.CT,dt,fs,_,rfl,s1 _ _ et,T.clCT,T.zap,F.points,_,rfl,_,rfl,t,Ad.CT,dt,fs,_,rfl,s1 _ _ et,T.clCT,T.t_cap,F.cap,L.pl,L.ps,st.points,a,sizes,st.cap,rfl,tw.pts.same s1,G.len,s1 _ _ ha,λH2 s2=>?_⟩
     exact k H2 (Same.trans s1 s2)
    ·have h2:fitB st codes=false:=by simpa using h2
     rw[h2,Bool.false_and] at k
     exact k H1 s1
end
end Pd
end
section
namespace Pd
open PySem PySem.Spec PyProof.Rows L2
open Vbpoan (State Point Old Retired codesOf loadsOf isFree pointOf inside spread nsum)
def keptK (l:List (Nat×Nat)):List (Key×V):=l.map λx=>(Sum.inl (x.1:Int),nat x.2)
def cnt (l:List (Nat×Nat)) (c:Nat):Nat:=((l.find? λx=>decide (x.1=c)).map (·.2)).getD 0
def KN (l:List (Nat×Nat)):Prop:=(l.map (·.1)).Nodup
theorem kk_eq {a b:Nat}:((Sum.inl (a:Int):Key)=Sum.inl (b:Int))↔a=b:=by
 constructor
 ·intro h;have:=Sum.inl.inj h;omega
 ·intro h;rw[h]
theorem zhX (c:Nat):∀l:List (Nat×Nat),valV (keptK l) (Sum.inl (c:Int))=(l.find? λx=>decide (x.1=c)).map λx=>nat x.2
 | []=>rfl
 | x::l=>by
  show valV ((Sum.inl (x.1:Int),nat x.2)::keptK l) _=_
  by_cases e:x.1=c
  ·rw[zbk (kk_eq.mpr e),List.find?_cons,decide_eq_true e];rfl
  ·rw[zbC (λz=>e (kk_eq.mp z)),List.find?_cons,decide_eq_false e]
   exact zhX c l
theorem zn2 (l:List (Nat×Nat)) (c:Nat):(valV (keptK l) (Sum.inl (c:Int))).getD (.int 0)=nat (cnt l c):=by
 rw[zhX]
 unfold cnt
 cases l.find? λx=>decide (x.1=c)<;>rfl
theorem zih (c:Nat):∀l:List (Nat×Nat),(bump c l).map (·.1)=if c∈l.map (·.1) then l.map (·.1) else l.map (·.1)++[c]
 | []=>by rw[if_neg (by simp)];rfl
 | (x,m)::r=>by
  have hb:bump c ((x,m)::r)=if x=c then (x,m+1)::r else (x,m)::bump c r:=rfl
  have hm:((x,m)::r).map (·.1)=x::r.map (·.1):=rfl
  rw[hb,hm]
  by_cases e:x=c
  ·rw[if_pos e,if_pos (by rw[←e];exact List.mem_cons_self)];rfl
  ·rw[if_neg e]
   have hm2:((x,m)::bump c r).map (·.1)=x::(bump c r).map (·.1):=rfl
   rw[hm2,zih c r]
   by_cases h:c∈r.map (·.1)
   ·rw[if_pos h,if_pos (List.mem_cons_of_mem _ h)]
   ·rw[if_neg h,if_neg (λz=>(List.mem_cons.mp z).elim (λq=>e q.symm) h)];rfl
theorem zqg {κ:Type} [DecidableEq κ] {k k':κ} {u v:V} {r:List (κ×V)} (h:¬ k'=k):putK ((k',u)::r) k v=(k',u)::putK r k v:=by
 unfold putK
 by_cases ha:(r.any λkv=>decide (kv.1=k))=true
 ·simp[h,ha]
 ·simp[h,ha]
theorem zqh {κ:Type} [DecidableEq κ] {k:κ} {u v:V} {r:List (κ×V)} (h:∀p∈r,¬ p.1=k):putK ((k,u)::r) k v=(k,v)::r:=by
 unfold putK
 have e:(r.map λkv=>if kv.1=k then (kv.1,v) else kv)=r:=by
  conv=>rhs;rw[←List.map_id r]
  apply List.map_congr_left
  intro p hp
  show (if p.1=k then (p.1,v) else p)=p
  rw[if_neg (h p hp)]
 simp[e]
theorem znn {c:Nat} {l:List (Nat×Nat)} (h:KN l):KN (bump c l):=by
 unfold KN at h ⊢
 rw[zih]
 split
 ·exact h
 ·rename_i z
  exact znX h z
theorem zmC {c:Nat}:∀{l:List (Nat×Nat)},KN l→keptK (bump c l)=putK (keptK l) (Sum.inl (c:Int)) (nat (cnt l c+1))
 | [],_=>rfl
 | (x,m)::r,h=>by
  obtain⟨h1,h2⟩:=List.nodup_cons.mp (show (x::r.map (·.1)).Nodup from h)
  have hb:bump c ((x,m)::r)=if x=c then (x,m+1)::r else (x,m)::bump c r:=rfl
  have hk:keptK ((x,m)::r)=(Sum.inl (x:Int),nat m)::keptK r:=rfl
  rw[hb,hk]
  by_cases e:x=c
  ·subst e
   have ec:cnt ((x,m)::r) x=m:=by unfold cnt;rw[List.find?_cons,decide_eq_true rfl];rfl
   rw[if_pos rfl,ec,zqh (λp hp z=>?_)]
   ·rfl
   ·obtain⟨y,hy,rfl⟩:=List.mem_map.mp hp
    exact h1 (List.mem_map.mpr ⟨y,hy,kk_eq.mp z⟩)
  ·have ec:cnt ((x,m)::r) c=cnt r c:=by unfold cnt;rw[List.find?_cons,decide_eq_false e]
   rw[if_neg e,ec,zqg (λz=>e (kk_eq.mp z)),←zmC (c:=c) h2]
   rfl
theorem zdI (codes:List Nat) (i:Nat) (t:Bool):∀n,KN (keptD codes i t n)
 | 0=>List.nodup_nil
 | n+1=>by
  unfold keptD
  split
  ·exact znn (zdI codes i t n)
  ·exact zdI codes i t n
theorem zm5 (c:Nat) (l:List (Nat×Nat)):(bump c l).length≤l.length+1:=by
 have:=congrArg List.length (zih c l)
 rw[List.length_map] at this
 rw[this]
 split<;>simp
theorem zda (codes:List Nat) (i:Nat) (t:Bool):∀n,(keptD codes i t n).length≤n
 | 0=>Nat.le_refl _
 | n+1=>by
  have ih:=zda codes i t n
  unfold keptD
  split
  ·have:=zm5 (codes.getD (i+n) 0) (keptD codes i t n);omega
  ·omega
theorem zpD {l:List (Nat×Nat)} (h:KN l) {j:Nat} {k:Key} {u:V} (e:(keptK l)[j]?=some (k,u)):∃c m,l[j]?=some (c,m)∧k=Sum.inl (c:Int)∧u=nat m∧valV (keptK l) k=some (nat m):=by
 unfold keptK at e
 rw[List.getElem?_map] at e
 cases q:l[j]? with
 | none=>rw[q] at e;cases e
 | some x =>
  rw[q] at e
  have e:=Option.some.inj e
  obtain⟨c,m⟩:=x
  injection e with e1 e2
  subst e1 e2
  refine⟨c,m,rfl,rfl,rfl,?_⟩
  rw[zhX]
  have:l.find? (λx=>decide (x.1=c))=some (c,m):=by
   refine zlN (i:=j) (λj' q' hj' hq'=>?_) q (decide_eq_true rfl)
   refine decide_eq_false λz=>?_
   have h1:(l.map (·.1))[j']?=some c:=by rw[List.getElem?_map,hq'];exact congrArg some z
   have h2:(l.map (·.1))[j]?=some c:=by rw[List.getElem?_map,q];rfl
   have:=nd_ix h h1 h2
   omega
  rw[this]
  rfl
def rowV (x:Nat×Nat×Nat×Nat):List V:=[nat x.1,nat x.2.1,nat x.2.2.1,nat x.2.2.2]
theorem zp5 {p:Nat→Bool} {m j:Nat} (hj:j < m) (h:∀n,n < j→p n=true) (hp:p j=false):(List.range m).takeWhile p=List.range j:=by
 have e:List.range m=List.range j++(j::(List.range (m - j - 1)).map (λx=>j+1+x)):=by
  have h1:m=j+(1+(m - j - 1)):=by omega
  rw[h1,List.range_add,List.range_add]
  simp[Nat.add_assoc,Function.comp_def]
 rw[e,List.takeWhile_append_of_pos (λx hx=>h x (List.mem_range.mp hx)),List.takeWhile_cons,hp]
 simp
theorem zqP {p:Nat→Bool} {m:Nat} (h:∀n,n < m→p n=true):(List.range m).takeWhile p=List.range m :=
 by
  have:=List.takeWhile_append_of_pos (p:=p) (l₁:=List.range m) (l₂:=[]) λx hx=>h x (List.mem_range.mp hx)
  simpa using this
def rowsTo (codes:List Nat) (i:Nat) (t:Bool) (j:Nat):List (Nat×Nat×Nat×Nat):=(List.range j).flatMap λn=>blk codes i t (n+1)
theorem zhu (codes:List Nat) (i:Nat) (t:Bool) (j:Nat):rowsTo codes i t (j+1)=rowsTo codes i t j++blk codes i t (j+1):=by
 unfold rowsTo
 rw[List.range_succ,List.flatMap_append]
 simp
theorem zcE (codes:List Nat) (i:Nat) (t:Bool):∀j,(rowsTo codes i t j).length≤j * (j+2)
 | 0=>Nat.zero_le _
 | j+1=>by
  rw[zhu,List.length_append]
  have h1:=zcE codes i t j
  have h2:=zda codes i t (j+1)
  have h3:(blk codes i t (j+1)).length=(keptD codes i t (j+1)).length+1:=by
   unfold blk
   simp
  have h4:(j+1) * (j+1+2)=j * (j+2)+(2 * j+3):=by
   simp only[Nat.add_mul,Nat.mul_add];omega
  omega
theorem keptRow (codes:List Nat) (i:Nat) (t:Bool) (n:Nat):∀j,(((keptD codes i t n).zipIdx.map λx=>(n,x.2,x.1.1,x.1.2)).take (j+1))=((keptD codes i t n).zipIdx.map λx=>(n,x.2,x.1.1,x.1.2)).take j++(match (keptD codes i t n)[j]? with
  | some x=>[(n,j,x.1,x.2)]
  | none=>[]):=by
 intro j
 cases q:(keptD codes i t n)[j]? with
 | none =>
  have:(keptD codes i t n).length≤j:=List.getElem?_eq_none_iff.mp q
  rw[List.append_nil,List.take_of_length_le (by simp;omega),List.take_of_length_le (by simp;omega)]
 | some x =>
  refine zau ?_
  rw[List.getElem?_map,List.getElem?_zipIdx,q]
  simp
theorem zor {d:Addr} {o:Obj} {kvs:List (Key×V)} {g:TG} {tb:TS} {D:Ends} {σ:L2.St} {H:Hp} (Pv:Nat→L2.St→Hp→Prop) (h0:Pv 0 σ H) (hl:∀i σ H,i≤kvs.length→Pv i σ H→H d=some (.frz o (.dK kvs)))
  (hs:∀(i:Nat) (k:Key) (u:V) (T:Addr) σ H,kvs[i]?=some (k,u)→Pv i σ H→H T=none→g (.ref T) σ (upd H T (.tup [nat i,kV k])) λσ2 H2=>tb { D with nx:=Pv (i+1),ct:=Pv (i+1),bk:=D.nx } σ2 H2) (hd:∀σ H,Pv kvs.length σ H→D.nx σ H) :
  ∃W:Nat→Nat→L2.St→Hp→Prop,(∃m,W 0 m σ H)∧∀i m σ H,W i m σ H→
   ((Itek d o kvs).stop i H∧D.nx σ H)∨((Itek d o kvs).go i H∧∃N:L2.St→Hp→Prop,(∀σ' H',N σ' H'→∃m',m' < m∧W (i+1) m' σ' H')∧∀x H',(Itek d o kvs).yld i H x H'→g x σ H' λσ2 H2=>tb { D with nx:=N,ct:=N,bk:=D.nx } σ2 H2):=by
 refine⟨λi m σ H=>m=kvs.length - i∧i≤kvs.length∧Pv i σ H,⟨kvs.length,by simp,Nat.zero_le _,h0⟩,?_⟩
 rintro i m σ H ⟨rfl,hi,p⟩
 have q:=hl i σ H hi p
 by_cases hlt:i < kvs.length
 ·refine .inr ⟨⟨q,hlt⟩,Pv (i+1),λσ' H' p'=>⟨kvs.length - (i+1),by omega,rfl,hlt,p'⟩,λx H' y=>?_⟩
  obtain⟨T,k,u,rfl,hT,rfl,hk⟩:=y
  exact hs i k u T σ H hk p hT
 ·have e:i=kvs.length:=by omega
  subst e
  exact .inl ⟨⟨q,Nat.le_refl _⟩,hd σ H p⟩
theorem zqa {tc:(Bool→Hp→Prop)→Prop} {Q:Bool→Hp→Prop} (b:Bool) (H:Hp) (h:∀R:Bool→Hp→Prop,R b H→tc R) (hq:Q b H):tc Q:=h Q hq
theorem znB {t u:TS} {D:Ends} {σ:L2.St} {H:Hp} (M:L2.St→Hp→Prop) (h:∀D':Ends,(∀σ' H',M σ' H'→D'.nx σ' H')→t D' σ H) (hm:∀σ' H',M σ' H'→u D σ' H'):tSeq t u D σ H:=h _ hm
theorem ziD {l:List Nat} {i j n:Nat} (h:l[i+j]?=some n):nsum ((l.drop i).take (j+1))=nsum ((l.drop i).take j)+n:=by
 rw[zau (by rw[List.getElem?_drop];exact h),zdH]
 rfl
section
variable {P:Program} {w:World} {K:PySem.W.Frag} {mg:Str→Option Value} {base:Heap} {Ad:Adr}
def zbr:Stmt:=top 32
theorem zam:FnScope ["points","cap","start","is_taken","choices","kept","load","place","point","size","turn","code"] ["points","cap","start","is_taken"] (defScope zbr):=⟨rfl,rfl,rfl,by decide +kernel,rfl,by decide +kernel,by decide +kernel⟩
abbrev ldsOf (pts:List Point):List Nat:=pts.map λp=>p.load
abbrev cdsOf (pts:List Point):List Nat:=pts.map λp=>p.code
def zcY (CP:Addr):Sp:=λvs H Q _=>∃pl as pts,∃cap i:Nat,∃t:Bool,vs=[.ref pl,nat cap,nat i,.bl t]∧PtsAt CP H pl as pts∧pts.length≤40∧i < pts.length∧
 ∀H' l,Same H H'→H l=none→RowsAt H' l ((firstD cap (ldsOf pts) (cdsOf pts) i t).map rowV)→Q (.ref l) H'
theorem zfz (D:DefIn K mg "first_districts" zbr ["points","cap","start","is_taken"]) (T:Txt K mg Ad):Callable P w K mg base 1 "first_districts" ["points","cap","start","is_taken"] (zcY Ad.CP):=by
 refine D.ok (k:=0) zam (λvs H Q E h=>?_) (λf cdv A outer s H vs Q E hr h=>?_)
 ·obtain⟨pl,as,pts,cap,i,t,rfl,_⟩:=h;rfl
 ·obtain⟨pl,as,pts,cap,i,t,rfl,hp,h40,hi,k⟩:=h
  have line:sizeLine=16777216:=sizeLine_eq
  have hlp:=hp.len
  refine⟨_,(za2 (zah (i:=4) zam.nd rfl (by first|exact Or.inl rfl|exact Or.inr rfl) (zas za4))
   (za2 (zah (i:=5) zam.nd rfl (by first|exact Or.inl rfl|exact Or.inr rfl) zjz)
   (za2 (zah (i:=6) zam.nd rfl (by first|exact Or.inl rfl|exact Or.inr rfl) zae)
   (za2 (zbB ownP rfl (zku rfl T.zmd (za0 (pv 2) (za0 (zai zaa rfl T.b_len PySem.boot_len (za0 (pv 0) za4)) za4))) (zaj (i:=7) zam.nd rfl (by first|exact Or.inl rfl|exact Or.inr rfl)) (za2 (zah (i:=8) zam.nd rfl (by first|exact Or.inl rfl|exact Or.inr rfl) (pe_ix zcS (pv 0) (pv 7) (λ_ _=>rfl)))
   (za2 (znH (i:=6) zam.nd rfl (by first|exact Or.inl rfl|exact Or.inr rfl) (zab (pv 8) rfl) zoe)
   (za2 (ps_if (zaf op_gt (pv 6) (pv 1) (nomark _)) (za5 zpk) zag)
   (za2 (ps_if (PW.pt (zmk (zaf op_ne (zab (pv 8) rfl) (zaq rfl T.zc2) (nomark _)) (zjw (zkp (PW.pt (zmk (zgH (pv 3)) (zjw (zaf op_eq (zab (pv 8) rfl) (zab (pe_ix zcS (pv 0) (pv 2) (λ_ _=>rfl)) rfl) (nomark _))))))))) (za5 (zeO (hu_of hr) (pv 5) (zab (pv 8) rfl) (pe_op zcm (zpq (hu_of hr) (pv 5) (zab (pv 8) rfl) zae ⟨rfl,rfl,rfl,rfl⟩) zae) rfl)) zag)
   (za2 (zah (i:=9) zam.nd rfl (by first|exact Or.inl rfl|exact Or.inr rfl) (pe_op zcm (pe_op zgK (pv 7) (pv 2)) zae))
   (za2 (zqj (zbB ownP rfl (zpm rfl T.zme (za0 (pv 5) za4)) (zgJ (n:=2) rfl (zax (zaj (i:=10) zam.nd rfl (by first|exact Or.inl rfl|exact Or.inr rfl)) (zax (zaj (i:=11) zam.nd rfl (by first|exact Or.inl rfl|exact Or.inr rfl)) zde))) (za5 (zaA (pe_bm PySem.F.plainAttrs_list PySem.F.slot_list_append PySem.F.type_list_append zcn (pv 4) (za0 (zd9 (za0 (pv 9) (za0 (pv 10) (za0 (pv 11) (za0 (zlt (hu_of hr) (pv 5) (pv 11) (λ_ _=>rfl)) za4))))) za4))))))
   (za5 (zaA (pe_bm PySem.F.plainAttrs_list PySem.F.slot_list_append PySem.F.type_list_append zcn (pv 4) (za0 (zd9 (za0 (pv 9) (za0 (zai zoP rfl T.b_len PySem.boot_len (za0 (pv 5) za4)) (za0 (zaq rfl T.zen) (za0 zae za4))))) za4)))))))))))
   (za5 (zac (pv 4))))))),?_⟩
  refine⟨Nat.zero_le _,λch hch=>?_⟩
  intro kd hkd
  have s1:Same H (upd H ch (.lst [])):=za8 hch
  have s2:Same H (upd (upd H ch (.lst [])) kd (.dK [])):=Same.trans s1 (za8 hkd)
  have nck:ch≠kd:=λz=>by rw[←z,za1] at hkd;cases hkd
  have hkd0:H kd=none:=s1.free hkd
  have fin:∀(j:Nat) (σ:L2.St) (H':Hp),σ[4]?=some (some (.ref ch))→Same H H'→RowsAt H' ch ((rowsTo (cdsOf pts) i t j).map rowV)→firstD cap (ldsOf pts) (cdsOf pts) i t=rowsTo (cdsOf pts) i t j→
    ∃v,σ[4]?=some (some v)∧Q v H':=λj σ H' e s3 r e2=>⟨_,e,k H' ch s3 hch (by rw[e2];exact r)⟩
  refine⟨_,rfl,_,rfl,pl,_,rfl,.inl (SqL.of (s2 _ _ hp.lst)),_,_,rfl,⟨by omega,by omega,by omega,by rw[List.length_map];omega⟩,zoq (lo:=(i:Int))
   (λj σ H'=>∃v7 v8 v9 v10 v11,σ=[some (.ref pl),some (nat cap),some (nat i),some (.bl t),some (.ref ch),some (.ref kd),some (nat (nsum (((ldsOf pts).drop i).take j))),v7,v8,v9,v10,v11]∧Same H H'∧
    H' kd=some (.dK (keptK (keptD (cdsOf pts) i t j)))∧RowsAt H' ch ((rowsTo (cdsOf pts) i t j).map rowV)∧∀n,n < j→fits cap (ldsOf pts) i (n+1)=true) ?_ ?_ ?_⟩
  ·refine⟨none,none,none,none,none,rfl,s2,za1,⟨[],by rw[za6 nck,za1];rfl,.nil⟩,λn hn=>by omega⟩
  ·have en:((((as.map λx=>V.ref x.1).length:Nat):Int) - (i:Int)).toNat=pts.length - i:=by rw[List.length_map,hlp];omega
   intro j σ H' hj hP
   rw[en] at hj
   obtain⟨v7,v8,v9,v10,v11,rfl,s3,hkd1,hrows,hfit⟩:=hP
   have hij:i+j < pts.length:=by omega
   have hij2:i+j < as.length:=by omega
   obtain⟨x,hx⟩:∃x,as[i+j]?=some x:=⟨_,List.getElem?_eq_getElem hij2⟩
   obtain⟨x0,hx0⟩:∃x,as[i]?=some x:=⟨_,List.getElem?_eq_getElem (by omega)⟩
   obtain⟨p,hpp,dx,fs,e,F⟩:=Paired.get1 hp.pt hx
   obtain⟨p0,hpp0,dx0,fs0,e0,F0⟩:=Paired.get1 hp.pt hx0
   have hld:(ldsOf pts)[i+j]?=some p.load:=by rw[List.getElem?_map,hpp];rfl
   have hcd:(cdsOf pts).getD (i+j) 0=p.code:=by rw[List.getD_eq_getElem?_getD,List.getElem?_map,hpp];rfl
   have hcd0:(cdsOf pts).getD i 0=p0.code:=by rw[List.getD_eq_getElem?_getD,List.getElem?_map,hpp0];rfl
   have hsum:=ziD hld
   refine⟨_,rfl,_,rfl,pl,_,_,_,rfl,rfl,SqL.of (s3 _ _ hp.lst),at_of (j:=i+j) (by omega) (by rw[List.getElem?_map,hx];rfl),?_⟩
   refine⟨_,rfl,_,rfl,x.1,Ad.CP,dx,fs,_,rfl,s3 _ _ e,T.clCP,T.zfw,F.load,_,_,rfl,rfl,?_⟩
   refine⟨_,rfl,_,rfl,_,_,rfl,rfl,_,rfl,ite2 (λhc=>?_) (λhc=>?_)⟩
   ·have hc:(cap:Int) < ((nsum (((ldsOf pts).drop i).take j):Nat):Int)+(p.load:Int):=of_decide_eq_true hc
    refine fin j _ H' rfl s3 hrows ?_
    unfold firstD rowsTo
    rw[zp5 (j:=j) (by rw[List.length_map];omega) hfit (by unfold fits;rw[hsum];exact decide_eq_false (by omega))]
   ·have hc:¬ (cap:Int) < ((nsum (((ldsOf pts).drop i).take j):Nat):Int)+(p.load:Int):=λz=>hc (decide_eq_true z)
    have hfj:fits cap (ldsOf pts) i (j+1)=true:=by unfold fits;rw[hsum];exact decide_eq_true (by omega)
    have hkn:=zdI (cdsOf pts) i t j
    have hkl:=zda (cdsOf pts) i t (j+1)
    have hkl0:=zda (cdsOf pts) i t j
    have ekD:keptD (cdsOf pts) i t (j+1)=if p.code≠0∧¬ (t=true∧p.code=p0.code) then bump p.code (keptD (cdsOf pts) i t j) else keptD (cdsOf pts) i t j:=by
     rw[←hcd,←hcd0]
     rfl
    dsimp only[tNext]
    refine znB (λσ' H4=>σ'=[some (.ref pl),some (nat cap),some (nat i),some (.bl t),some (.ref ch),some (.ref kd),some (.int (((nsum (((ldsOf pts).drop i).take j):Nat):Int)+(p.load:Int))),some (.int ((i:Int)+(j:Nat))),some (.ref x.1),v9,v10,v11]∧
     Same H H4∧H4 kd=some (.dK (keptK (keptD (cdsOf pts) i t (j+1))))∧RowsAt H4 ch ((rowsTo (cdsOf pts) i t j).map rowV)) (λD' hD'=>?_) ?_
    ·show tAnd _ _ _ _ _
     refine zqa (decide (p.code≠0∧¬ (t=true∧p.code=p0.code))) H' (λR hR=>?_) (ite2 (λhcond=>?_) (λhcond=>?_))
     ·refine⟨_,rfl,x.1,Ad.CP,dx,fs,_,rfl,s3 _ _ e,T.clCP,T.zb2,F.code,rfl,_,rfl,ite2 (λh0=>?_) (λh0=>?_)⟩
      ·have h0:=zkL (b:=0) h0
       refine⟨_,rfl,_,rfl,ite2 (λht=>?_) (λht=>?_)⟩
       ·refine⟨_,rfl,x.1,Ad.CP,dx,fs,_,rfl,s3 _ _ e,T.clCP,T.zb2,F.code,_,rfl,_,rfl,pl,_,_,_,rfl,rfl,SqL.of (s3 _ _ hp.lst),at_of (j:=i) rfl (by rw[List.getElem?_map,hx0];rfl),x0.1,Ad.CP,dx0,fs0,_,rfl,s3 _ _ e0,T.clCP,T.zb2,F0.code,rfl,_,rfl,?_⟩
        have eb:(!decide (nat p.code=nat p0.code))=decide (p.code≠0∧¬ (t=true∧p.code=p0.code)):=by
         rw[Bool.eq_iff_iff,decide_eq_true_eq,Bool.not_eq_true']
         constructor
         ·intro z;exact⟨h0,λq=>by rw[zaQ.mpr q.2] at z;cases z⟩
         ·intro z
          rw[Bool.eq_false_iff]
          intro q
          exact z.2 ⟨ht,zaQ.mp q⟩
        have hR:=eb ▸ hR
        exact hR
       ·have hR:R true H':=by rw[decide_eq_true (⟨h0,λz=>ht z.1⟩:p.code≠0∧¬ (t=true∧p.code=p0.code))] at hR;exact hR
        exact hR
      ·have h0:=zkM (b:=0) h0
       have hR:R false H':=by rw[decide_eq_false (λz=>z.1 h0)] at hR;exact hR
       exact hR
     ·have hcond:=of_decide_eq_true hcond
      rw[if_pos hcond,] at ekD
      refine⟨_,rfl,kd,rfl,.inl ⟨_,.inl hkd1⟩,_,rfl,x.1,Ad.CP,dx,fs,_,rfl,s3 _ _ e,T.clCP,T.zb2,F.code,_,DGet.k (k:=Sum.inl (p.code:Int)) hkd1,(cnt (keptD (cdsOf pts) i t j) p.code:Nat),1,zn2 _ _,rfl,?_⟩
      refine⟨_,rfl,_,rfl,x.1,Ad.CP,dx,fs,_,rfl,s3 _ _ e,T.clCP,T.zb2,F.code,kd,_,rfl,DPut.k (k:=Sum.inl (p.code:Int)) hkd1 (by unfold keptK;rw[List.length_map];omega),?_⟩
      refine hD' _ _ ⟨rfl,λb o eb=>?_,?_,?_⟩
      ·rw[za6 (za7 eb hkd0)];exact s3 _ _ eb
      ·rw[za1,ekD,zmC hkn]
       rfl
      ·exact hrows.kept zaG (by simpa using nck) (λb hb xs=>by rw[List.mem_singleton.mp hb,hkd1];intro z;cases z)
     ·have hcond:¬ (p.code≠0∧¬ (t=true∧p.code=p0.code)):=λz=>hcond (decide_eq_true z)
      rw[if_neg hcond] at ekD
      exact hD' _ _ ⟨rfl,s3,by rw[ekD];exact hkd1,hrows⟩
    ·rintro σ' H4 ⟨rfl,s4,hkd4,hrows4⟩
     refine⟨_,rfl,_,rfl,_,_,rfl,rfl,_,_,rfl,rfl,?_⟩
     have esz:V.int ((i:Int)+(j:Nat) - (i:Int)+1)=nat (j+1):=congrArg V.int (by omega)
     dsimp only[gName]
     refine znB (λσ' H6=>∃w10 w11,σ'=[some (.ref pl),some (nat cap),some (nat i),some (.bl t),some (.ref ch),some (.ref kd),some (.int (((nsum (((ldsOf pts).drop i).take j):Nat):Int)+(p.load:Int))),some (.int ((i:Int)+(j:Nat))),some (.ref x.1),some (.int ((i:Int)+(j:Nat) - (i:Int)+1)),w10,w11]∧
      Same H H6∧H6 kd=some (.dK (keptK (keptD (cdsOf pts) i t (j+1))))∧RowsAt H6 ch ((rowsTo (cdsOf pts) i t j++((keptD (cdsOf pts) i t (j+1)).zipIdx.map λx=>(j+1,x.2,x.1.1,x.1.2))).map rowV)) (λD' hD'=>?_) ?_
     ·refine⟨kd,_,hkd4,trivial,λod=>?_⟩
      have s5:∀o:HO,Same H (upd H4 kd o):=λo b q eb=>by rw[za6 (za7 eb hkd0)];exact s4 _ _ eb
      refine⟨_,rfl,kd,od,_,rfl,za1,zor (d:=kd) (o:=od)
       (λm σ H5=>∃w10 w11,σ=[some (.ref pl),some (nat cap),some (nat i),some (.bl t),some (.ref ch),some (.ref kd),some (.int (((nsum (((ldsOf pts).drop i).take j):Nat):Int)+(p.load:Int))),some (.int ((i:Int)+(j:Nat))),some (.ref x.1),some (.int ((i:Int)+(j:Nat) - (i:Int)+1)),w10,w11]∧
        Same H H5∧H5 kd=some (.frz od (.dK (keptK (keptD (cdsOf pts) i t (j+1)))))∧RowsAt H5 ch ((rowsTo (cdsOf pts) i t j++((keptD (cdsOf pts) i t (j+1)).zipIdx.map λx=>(j+1,x.2,x.1.1,x.1.2)).take m).map rowV)) ?_ (λm σ H5 _ ⟨_,_,_,_,q,_⟩=>q) ?_ ?_⟩
      ·refine⟨v10,v11,rfl,s5 _,za1,?_⟩
       rw[List.take_zero,List.append_nil]
       exact hrows4.kept zaG (by simpa using nck) (λb hb xs=>by rw[List.mem_singleton.mp hb,hkd4];intro z;cases z)
      ·rintro m kk uu TT σ H5 hkm ⟨w10,w11,rfl,s6,hk5,ts,hts,tps⟩ hTT
       obtain⟨c,n,e1,rfl,rfl,ev⟩:=zpD (zdI (cdsOf pts) i t (j+1)) hkm
       have nkT:kd≠TT:=za7 hk5 hTT
       have ncT:ch≠TT:=za7 hts hTT
       have sT:Same H5 (upd H5 TT (.tup [nat m,kV (Sum.inl (c:Int))])):=za8 hTT
       refine⟨TT,_,rfl,SqT.of za1,rfl,_,_,rfl,_,_,rfl,rfl,?_⟩
       refine⟨_,rfl,.inl ⟨rfl,_,SqL.of (sT _ _ hts)⟩,_,rfl,_,rfl,_,rfl,_,rfl,_,rfl,kd,nat n,rfl,.inl ⟨_,Sum.inl (c:Int),.inr ⟨od,sT _ _ hk5⟩,rfl,ev.symm⟩,(by show 4≤sizeLine;decide),λtt htt=>?_⟩
       have htl:ts.length=_:=Paired.length tps
       have hrl:=zcE (cdsOf pts) i t j
       have hj40:j * (j+2)≤40 * 42:=Nat.mul_le_mul (by omega) (by omega)
       rw[List.length_map,List.length_append,List.length_take,List.length_map,List.length_zipIdx] at htl
       refine⟨ch,_,_,rfl,rfl,za8 htt _ _ (sT _ _ hts),by rw[List.length_map];omega,?_⟩
       have nkc:kd≠ch:=Ne.symm nck
       have nkt:kd≠tt:=za7 (sT _ _ hk5) htt
       refine⟨_,_,rfl,λb o eb=>?_,?_,?_⟩
       ·rw[za6 (za7 eb hch)];exact za8 htt _ _ (sT _ _ (s6 _ _ eb))
       ·rw[za6 nkc,za6 nkt,za6 nkT];exact hk5
       ·rw[keptRow,e1,←List.append_assoc,List.map_append]
        have:=zc0 (xs:=[.int ((i:Int)+(j:Nat) - (i:Int)+1),nat m,nat c,nat n]) (sT _ _ hts) (TupsAt.same tps sT) htt
        rw[esz] at this ⊢
        exact this
      ·rintro σ H5 ⟨w10,w11,rfl,s6,hk5,hr5⟩
       have elen:(keptK (keptD (cdsOf pts) i t (j+1))).length=((keptD (cdsOf pts) i t (j+1)).zipIdx.map λx=>(j+1,x.2,x.1.1,x.1.2)).length:=by unfold keptK;simp
       rw[elen,List.take_length] at hr5
       refine⟨hk5,hD' _ _ ⟨w10,w11,rfl,λb o eb=>?_,za1,?_⟩⟩
       ·rw[za6 (za7 eb hkd0)];exact s6 _ _ eb
       ·exact hr5.kept zaG (by simpa using nck) (λb hb xs=>by rw[List.mem_singleton.mp hb,hk5];intro z;cases z)
     ·rintro σ' H6 ⟨w10,w11,rfl,s6,hk6,ts,hts,tps⟩
      have htl:ts.length=_:=Paired.length tps
      have hrl:=zcE (cdsOf pts) i t j
      have hj40:j * (j+2)≤40 * 42:=Nat.mul_le_mul (by omega) (by omega)
      rw[List.length_map,List.length_append,List.length_map,List.length_zipIdx] at htl
      refine⟨_,rfl,.inl ⟨rfl,_,SqL.of hts⟩,_,rfl,_,rfl,kd,_,rfl,hk6,(by show 4≤sizeLine;decide),λtt htt=>?_⟩
      refine⟨ch,_,_,rfl,rfl,za8 htt _ _ hts,by rw[List.length_map];omega,?_⟩
      have nkt:kd≠tt:=za7 hk6 htt
      refine⟨some (.int ((i:Int)+(j:Nat))),some (.ref x.1),some (.int ((i:Int)+(j:Nat) - (i:Int)+1)),w10,w11,?_,λb o eb=>?_,?_,?_,λn hn=>?_⟩
      ·rw[hsum];rfl
      ·rw[za6 (za7 eb hch)];exact za8 htt _ _ (s6 _ _ eb)
      ·rw[za6 (Ne.symm nck),za6 nkt];exact hk6
      ·rw[zhu]
       unfold blk
       rw[←List.append_assoc,List.map_append]
       have:=zc0 (xs:=[.int ((i:Int)+(j:Nat) - (i:Int)+1),.int ((keptK (keptD (cdsOf pts) i t (j+1))).length:Int),.int 0,.int 0]) hts tps htt
       have el:(keptK (keptD (cdsOf pts) i t (j+1))).length=(keptD (cdsOf pts) i t (j+1)).length:=by unfold keptK;simp
       rw[el] at this ⊢
       rw[esz] at this ⊢
       exact this
      ·by_cases en:n=j
       ·rw[en];exact hfj
       ·exact hfit n (by omega)
  ·have en:((((as.map λx=>V.ref x.1).length:Nat):Int) - (i:Int)).toNat=pts.length - i:=by rw[List.length_map,hlp];omega
   intro σ H' hP
   rw[en] at hP
   obtain⟨v7,v8,v9,v10,v11,rfl,s3,hkd1,hrows,hfit⟩:=hP
   refine fin _ _ H' rfl s3 hrows ?_
   unfold firstD rowsTo
   rw[zqP λn hn=>hfit n (by rw[List.length_map] at hn;exact hn),List.length_map]
end
end Pd
end
section
namespace Pd
open PySem PySem.Spec PyProof.Rows L2
open Vbpoan (State Point Old Retired codesOf loadsOf isFree pointOf inside spread nsum)
def candI (c:Cand):List Int:=[(c.d:Int),-(c.kept:Int),-(c.size:Int),(c.turn:Int),(c.code:Int)]
def candV (c:Cand):List V:=[nat c.d,.int (-(c.kept:Int)),.int (-(c.size:Int)),nat c.turn,nat c.code]
theorem zpz (x y:Cand):HT.lexLt (candI x) (candI y)=decide (candLt x y):=by
 unfold candI
 rw[HT.zcI,HT.zcI,HT.zcI,HT.zcI,HT.zcI,HT.zfD,Bool.eq_iff_iff,decide_eq_true_eq]
 unfold candLt
 by_cases h1:(x.d:Int)=(y.d:Int)
 ·rw[if_pos h1]
  by_cases h2:-(x.kept:Int) = -(y.kept:Int)
  ·rw[if_pos h2]
   by_cases h3:-(x.size:Int) = -(y.size:Int)
   ·rw[if_pos h3]
    by_cases h4:(x.turn:Int)=(y.turn:Int)
    ·rw[if_pos h4]
     by_cases h5:(x.code:Int)=(y.code:Int)
     ·rw[if_pos h5]
      constructor
      ·intro z;cases z
      ·intro z;omega
     ·rw[if_neg h5,decide_eq_true_eq];omega
    ·rw[if_neg h4,decide_eq_true_eq];omega
   ·rw[if_neg h3,decide_eq_true_eq];omega
  ·rw[if_neg h2,decide_eq_true_eq];omega
 ·rw[if_neg h1,decide_eq_true_eq];omega
theorem zn1 (cs:List Cand) (hne:cs≠[]):cs[leastAt (cs.map candI)]?=some (best1 cs):=by
 cases cs with
 | nil=>exact(hne rfl).elim
 | cons x l =>
  have gen:∀k,k≤l.length→(x::l)[argBest (λi j=>HT.lexLt (((x::l).map candI).getD i []) (((x::l).map candI).getD j [])) k]?=some ((l.take k).foldl (λb y=>if candLt y b then y else b) x):=by
   intro k
   induction k with
   | zero=>intro _;rfl
   | succ k ih =>
    intro hk
    have ih:=ih (by omega)
    have hy:l[k]?=some l[k]:=List.getElem?_eq_getElem (by omega)
    rw[zau hy,List.foldl_append]
    show (x::l)[if HT.lexLt (((x::l).map candI).getD (k+1) []) (((x::l).map candI).getD (argBest _ k) [])=true then k+1 else argBest _ k]?=some (if candLt l[k] _ then l[k] else _)
    have e1:((x::l).map candI).getD (k+1) []=candI l[k]:=by
     rw[List.getD_eq_getElem?_getD,List.getElem?_map,List.getElem?_cons_succ,hy];rfl
    have e2:((x::l).map candI).getD (argBest (λi j=>HT.lexLt (((x::l).map candI).getD i []) (((x::l).map candI).getD j [])) k) []=candI ((l.take k).foldl (λb y=>if candLt y b then y else b) x):=by
     rw[List.getD_eq_getElem?_getD,List.getElem?_map,ih];rfl
    rw[e1,e2,zpz]
    by_cases hc:candLt l[k] ((l.take k).foldl (λb y=>if candLt y b then y else b) x)
    ·rw[if_pos (decide_eq_true hc),if_pos hc,List.getElem?_cons_succ]
     exact hy
    ·rw[if_neg (λz=>hc (of_decide_eq_true z)),if_neg hc]
     exact ih
  have:=gen l.length (Nat.le_refl _)
  rw[List.take_length] at this
  unfold leastAt
  rw[List.length_map,List.length_cons,Nat.add_sub_cancel]
  exact this
def bkey (e:Nat) (b:Bool):List Key:=[Sum.inl (e:Int),Sum.inl (boolK b)]
theorem zmF {e i:Nat} {b c:Bool}:bkey e b=bkey i c↔e=i∧b=c:=by
 unfold bkey
 constructor
 ·intro h
  injection h with h1 h2
  injection h2 with h3 _
  refine⟨kk_eq.mp h1,?_⟩
  have:=Sum.inl.inj h3
  cases b<;>cases c<;>first|rfl|(exact absurd this (by decide))
 ·rintro ⟨rfl,rfl⟩;rfl
theorem zij {H:Hp} {a:Addr} {e:Nat} {b:Bool} (h:H a=some (.tup [nat e,.bl b])):TK H a (bkey e b):=⟨_,h,.cons (.inl rfl) (.cons (.inr ⟨b,rfl,rfl⟩) .nil)⟩
def BestAt (H:Hp) (d:Addr) (codes:List Nat) (lo:Nat) (rows:List (Cand×Cand)):Prop :=
 ∃kvs,H d=some (.dT kvs)∧kvs.length≤1000∧∀e b,lo≤e→Need codes e b→∃tt,valV kvs (bkey e b)=some (.ref tt)∧H tt=some (.tup (candV (pick (rows.getD (e - lo) (noC,noC)) b)))
theorem BestAt.same {H H':Hp} {d:Addr} {codes:List Nat} {lo:Nat} {rows:List (Cand×Cand)} (x:BestAt H d codes lo rows) (s:Same H H'):BestAt H' d codes lo rows :=
 let ⟨kvs,h1,h2,h3⟩:=x;⟨kvs,s _ _ h1,h2,λe b he hn=>let ⟨tt,a,c⟩:=h3 e b he hn;⟨tt,a,s _ _ c⟩⟩
section
variable {P:Program} {w:World} {K:PySem.W.Frag} {mg:Str→Option Value} {base:Heap} {Ad:Adr}
def zbq:Stmt:=top 33
theorem zfm:FnScope ["points","start","is_taken","end","code"] ["points","start","is_taken","end","code"] (defScope zbq):=⟨rfl,rfl,rfl,by decide +kernel,rfl,by decide +kernel,by decide +kernel⟩
def zbS (CP:Addr):Sp:=λvs H Q _=>∃pl as pts,∃i e c:Nat,∃t:Bool,vs=[.ref pl,nat i,.bl t,nat e,nat c]∧PtsAt CP H pl as pts∧i < pts.length∧e≤pts.length∧Q (.bl (behind (cdsOf pts) i t e c)) H
theorem zfy (D:DefIn K mg "is_taken_behind" zbq ["points","start","is_taken","end","code"]) (T:Txt K mg Ad):Callable P w K mg base 1 "is_taken_behind" ["points","start","is_taken","end","code"] (zbS Ad.CP):=by
 refine D.ok (k:=0) zfm (λvs H Q E h=>?_) (λf cdv A outer s H vs Q E hr h=>?_)
 ·obtain⟨pl,as,pts,i,e,c,t,rfl,_⟩:=h;rfl
 ·obtain⟨pl,as,pts,i,e,c,t,rfl,hp,hi,he,k⟩:=h
  have hlp:=hp.len
  have hlc:(cdsOf pts).length=pts.length:=List.length_map ..
  refine⟨_,(za2 (ps_if (PW.pt (pw_or (zaf op_eq (pv 3) (zai zaa rfl T.b_len PySem.boot_len (za0 (pv 0) za4)) (nomark _)) (zhv (zaf op_eq (zab (pe_ix zcS (pv 0) (pv 3) (λ_ _=>rfl)) rfl) (zaq rfl T.zc2) (nomark _))))) (za5 (zac pe_bl)) zag)
   (za5 (zac (pe_or (zfW op_eq (zab (pe_ix zcS (pv 0) (pv 3) (λ_ _=>rfl)) rfl) (pv 4) (nomark _)) (zkw (zmn (pv 2) (zkw (zfW op_eq (zab (pe_ix zcS (pv 0) (pv 3) (λ_ _=>rfl)) rfl) (zab (pe_ix zcS (pv 0) (pv 1) (λ_ _=>rfl)) rfl) (nomark _))))))))),?_⟩
  refine⟨_,rfl,_,rfl,pl,_,rfl,.inl (SqL.of hp.lst),rfl,_,rfl,?_⟩
  rw[List.length_map,hlp]
  refine ite2 (λh1=>?_) (λh1=>?_)
  ·have h1:=zaQ.mp h1
   have eb:behind (cdsOf pts) i t e c=false:=by unfold behind;rw[if_pos (.inl (by rw[hlc];exact h1))]
   rw[eb] at k
   exact iteT k
  ·have h1:¬ e=pts.length:=λz=>h1 (zaQ.mpr z)
   obtain⟨x,hx⟩:∃x,as[e]?=some x:=⟨_,List.getElem?_eq_getElem (by omega)⟩
   obtain⟨x0,hx0⟩:∃x,as[i]?=some x:=⟨_,List.getElem?_eq_getElem (by omega)⟩
   obtain⟨p,hpp,dx,fs,ex,F⟩:=Paired.get1 hp.pt hx
   obtain⟨p0,hpp0,dx0,fs0,ex0,F0⟩:=Paired.get1 hp.pt hx0
   have hcd:(cdsOf pts).getD e 0=p.code:=by rw[List.getD_eq_getElem?_getD,List.getElem?_map,hpp];rfl
   have hcd0:(cdsOf pts).getD i 0=p0.code:=by rw[List.getD_eq_getElem?_getD,List.getElem?_map,hpp0];rfl
   refine⟨_,rfl,_,rfl,pl,_,_,_,rfl,rfl,SqL.of hp.lst,at_of (j:=e) rfl (by rw[List.getElem?_map,hx];rfl),x.1,Ad.CP,dx,fs,_,rfl,ex,T.clCP,T.zb2,F.code,rfl,_,rfl,ite2 (λh2=>?_) (λh2=>?_)⟩
   ·have h2:=zaQ (b:=0).mp h2
    have eb:behind (cdsOf pts) i t e c=false:=by unfold behind;rw[if_pos (.inr (by rw[hcd];exact h2))]
    rw[eb] at k
    exact k
   ·have h2:¬ p.code=0:=λz=>h2 (zaQ (b:=0).mpr z)
    have eb:behind (cdsOf pts) i t e c=(decide (p.code=c) || (t && decide (p.code=p0.code))):=by
     unfold behind
     rw[if_neg (λz=>z.elim (λq=>h1 (by rw[hlc] at q;exact q)) (λq=>h2 (by rw[←hcd];exact q))),hcd,hcd0]
    rw[eb] at k
    refine⟨_,rfl,_,rfl,pl,_,_,_,rfl,rfl,SqL.of hp.lst,at_of (j:=e) rfl (by rw[List.getElem?_map,hx];rfl),x.1,Ad.CP,dx,fs,_,rfl,ex,T.clCP,T.zb2,F.code,_,rfl,rfl,_,rfl,ite2 (λh3=>?_) (λh3=>?_)⟩
    ·rw[decide_eq_true (zaQ.mp h3),Bool.true_or] at k
     exact k
    ·rw[decide_eq_false (λz=>h3 (zaQ.mpr z)),Bool.false_or] at k
     refine⟨_,rfl,_,rfl,ite2 (λh4=>?_) (λh4=>?_)⟩
     ·rw[h4,Bool.true_and] at k
      refine⟨_,rfl,_,rfl,pl,_,_,_,rfl,rfl,SqL.of hp.lst,at_of (j:=e) rfl (by rw[List.getElem?_map,hx];rfl),x.1,Ad.CP,dx,fs,_,rfl,ex,T.clCP,T.zb2,F.code,
       _,rfl,_,rfl,pl,_,_,_,rfl,rfl,SqL.of hp.lst,at_of (j:=i) rfl (by rw[List.getElem?_map,hx0];rfl),x0.1,Ad.CP,dx0,fs0,_,rfl,ex0,T.clCP,T.zb2,F0.code,rfl,?_⟩
      have e4:decide (nat p.code=nat p0.code)=decide (p.code=p0.code):=by rw[Bool.eq_iff_iff,zaQ,decide_eq_true_eq]
      have k:=e4 ▸ k
      exact k
     ·have h4:t=false:=by simpa using h4
      rw[h4,Bool.false_and] at k
      exact k
def zcC:Stmt:=top 34
theorem zaK:FnScope ["points","cap","start","is_taken","best","weighed","size","turn","code","kept","end","rest"] ["points","cap","start","is_taken","best"] (defScope zcC):=⟨rfl,rfl,rfl,by decide +kernel,rfl,by decide +kernel,by decide +kernel⟩
def zeB (CP:Addr):Sp:=λvs H Q _=>∃pl as pts,∃cap i:Nat,∃t:Bool,∃d rows,vs=[.ref pl,nat cap,nat i,.bl t,.ref d]∧PtsAt CP H pl as pts∧pts.length≤40∧i < pts.length∧Ctg (cdsOf pts)∧(∀l∈ldsOf pts,l≤cap)∧BestAt H d (cdsOf pts) (i+1) rows∧
 ∀H' tt,Same H H'→H' tt=some (.tup (candV (best1 ((firstD cap (ldsOf pts) (cdsOf pts) i t).map (candOf (cdsOf pts) rows i t)))))→Q (.ref tt) H'
theorem zp8 {α β:Type} (f:α→List β) {l m:List α} (h:l.Sublist m):(l.flatMap f).length≤(m.flatMap f).length:=by
 induction h with
 | slnil=>exact Nat.le_refl _
 | cons a _ ih=>rw[List.flatMap_cons,List.length_append];omega
 | cons_cons a _ ih=>rw[List.flatMap_cons,List.flatMap_cons,List.length_append,List.length_append];omega
theorem zn9 {cap:Nat} {loads codes:List Nat} {i:Nat} {t:Bool} (h:loads.length≤40):(firstD cap loads codes i t).length≤2000:=by
 have h1:(firstD cap loads codes i t).length≤(rowsTo codes i t (loads.length - i)).length:=by
  unfold firstD rowsTo
  exact zp8 _ (List.takeWhile_sublist _)
 have h2:=zcE codes i t (loads.length - i)
 have h3:(loads.length - i) * (loads.length - i+2)≤40 * 42:=Nat.mul_le_mul (by omega) (by omega)
 omega
theorem ziB (D:DefIn K mg "best_choice" zcC ["points","cap","start","is_taken","best"]) (T:Txt K mg Ad) (zca:Callable P w K mg base 1 "first_districts" ["points","cap","start","is_taken"] (zcY Ad.CP))
  (zaM:Callable P w K mg base 1 "is_taken_behind" ["points","start","is_taken","end","code"] (zbS Ad.CP)):Callable P w K mg base 2 "best_choice" ["points","cap","start","is_taken","best"] (zeB Ad.CP):=by
 refine D.ok (k:=1) zaK (λvs H Q E h=>?_) (λf cdv A outer s H vs Q E hr h=>?_)
 ·obtain⟨pl,as,pts,cap,i,t,d,rows,rfl,_⟩:=h;rfl
 ·obtain⟨pl,as,pts,cap,i,t,d,rows,rfl,hp,h40,hi,hC,hcap,hbest,k⟩:=h
  have line:sizeLine=16777216:=sizeLine_eq
  have hlp:=hp.len
  have hll:(ldsOf pts).length=pts.length:=List.length_map ..
  have hlc:(cdsOf pts).length=pts.length:=List.length_map ..
  have hfl:=zn9 (cap:=cap) (codes:=cdsOf pts) (i:=i) (t:=t) (loads:=ldsOf pts) (by omega)
  refine⟨_,(za2 (zah (i:=5) zaK.nd rfl (by first|exact Or.inl rfl|exact Or.inr rfl) (zas za4))
   (za2 (zbB ownP rfl (zaE (pe_fn zca (hr.mono (by decide)) rfl passN (za0 (pv 0) (za0 (pv 1) (za0 (pv 2) (za0 (pv 3) za4)))))) (zgJ (n:=4) rfl (zax (zaj (i:=6) zaK.nd rfl (by first|exact Or.inl rfl|exact Or.inr rfl)) (zax (zaj (i:=7) zaK.nd rfl (by first|exact Or.inl rfl|exact Or.inr rfl)) (zax (zaj (i:=8) zaK.nd rfl (by first|exact Or.inl rfl|exact Or.inr rfl)) (zax (zaj (i:=9) zaK.nd rfl (by first|exact Or.inl rfl|exact Or.inr rfl)) zde))))) (za2 (zah (i:=10) zaK.nd rfl (by first|exact Or.inl rfl|exact Or.inr rfl) (pe_op zcm (pv 2) (pv 6)))
   (za2 (zah (i:=11) zaK.nd rfl (by first|exact Or.inl rfl|exact Or.inr rfl) (zlt (hu_of hr) (pv 4) (zd9 (za0 (pv 10) (za0 (pe_fn zaM (hr.mono (by decide)) rfl passN (za0 (pv 0) (za0 (pv 2) (za0 (pv 3) (za0 (pv 10) (za0 (pv 8) za4)))))) za4))) (λ_ _=>rfl)))
   (za5 (zaA (pe_bm PySem.F.plainAttrs_list PySem.F.slot_list_append PySem.F.type_list_append zcn (pv 5) (za0 (zd9 (za0 (pe_op zcm (pe_ix zms (pv 11) zae (λ_ _=>rfl)) zae) (za0 (pe_op zgK (pe_ix zms (pv 11) zae (λ_ _=>rfl)) (pv 9)) (za0 (pe_un zey (pv 6)) (za0 (pv 7) (za0 (pv 8) za4)))))) za4)))))))
   (za5 (zac (zai (zoM rfl (hu_of hr)) rfl T.b_min zoS (za0 (pv 5) za4)))))),?_⟩
  refine⟨Nat.zero_le _,λwl hwl=>?_⟩
  have s0:Same H (upd H wl (.lst [])):=za8 hwl
  refine⟨_,rfl,_,rfl,_,rfl,_,rfl,pl,as,pts,cap,i,t,rfl,hp.same s0,h40,hi,λH1 l s1 n1 hrows=>?_⟩
  have sH1:Same H H1:=Same.trans s0 s1
  obtain⟨ts,hts,tps⟩:=hrows
  have htl:ts.length=_:=Paired.length tps
  rw[List.length_map] at htl
  have nlw:l≠wl:=λz=>by rw[z,za1] at n1;cases n1
  generalize hfd:firstD cap (ldsOf pts) (cdsOf pts) i t=fd at *
  refine⟨l,rfl,⟨_,SqL.of hts⟩,zb0 (K:=K) (a:=l) (xs:=ts.map V.ref)
   (λj σ H'=>∃v6 v7 v8 v9 v10 v11,σ=[some (.ref pl),some (nat cap),some (nat i),some (.bl t),some (.ref d),some (.ref wl),v6,v7,v8,v9,v10,v11]∧Kept [wl] H1 H'∧RowsAt H' wl ((fd.take j).map λx=>candV (candOf (cdsOf pts) rows i t x)))
   ⟨none,none,none,none,none,none,rfl,Same.kept _ (Same.refl _),⟨[],s1 _ _ za1,.nil⟩⟩ (λj σ H' _ ⟨_,_,_,_,_,_,_,k1,_⟩=>SqL.of (k1 _ _ hts (by simpa using nlw))) ?_ ?_⟩
  ·rintro j y σ H' hj ⟨v6,v7,v8,v9,v10,v11,rfl,k1,ws,hws,wps⟩
   obtain⟨tt,e1,rfl⟩:=zgF hj
   obtain⟨xs,e2,e3⟩:=Paired.get1 tps e1
   rw[List.getElem?_map] at e2
   cases er:fd[j]? with
   | none=>rw[er] at e2;cases e2
   | some x =>
    rw[er] at e2
    have e2:=Option.some.inj e2
    subst e2
    obtain⟨n,tu,c,kp⟩:=x
    have ok:RowOk (ldsOf pts) (cdsOf pts) i (n,tu,c,kp):=zkS (by rw[hfd];exact List.mem_of_getElem? er)
    have okp:1≤n:=ok.pos
    have okl:i+n≤(ldsOf pts).length:=ok.le
    have sH':Same H H':=zcP sH1 k1 (by simpa using hwl)
    have ntw:tt≠wl:=by
     intro z
     rw[z] at e3
     have:=s1 _ _ (za1 (H:=H) (a:=wl) (o:=.lst []))
     rw[e3] at this
     cases this
    refine⟨tt,_,rfl,SqT.of (k1 _ _ e3 (by simpa using ntw)),rfl,_,_,rfl,_,_,rfl,_,_,rfl,_,_,rfl,rfl,?_⟩
    refine⟨_,rfl,_,rfl,_,_,rfl,rfl,?_⟩
    refine⟨_,rfl,_,rfl,_,rfl,_,rfl,_,rfl,_,rfl,_,rfl,pl,as,pts,i,i+n,c,t,rfl,hp.same sH',hi,by omega,(by show 2≤sizeLine;decide),λkt hkt=>?_⟩
    have sK:Same H' (upd H' kt (.tup [nat (i+n),.bl (behind (cdsOf pts) i t (i+n) c)])):=za8 hkt
    have hneed:Need (cdsOf pts) (i+n) (behind (cdsOf pts) i t (i+n) c):=zhJ hC okp (by omega) ok.code
    obtain⟨kvs,hd,hkl,hall⟩:=hbest.same (Same.trans sH' sK)
    obtain⟨rt,hv,hrt⟩:=hall (i+n) _ (by omega) hneed
    refine⟨d,.ref rt,rfl,hv ▸ DGet.t hd (zij za1),?_⟩
    have ei:i+n - (i+1)=n - 1:=by omega
    rw[ei] at hrt
    have hws':=sK _ _ hws
    generalize hR:pick (rows.getD (n - 1) (noC,noC)) (behind (cdsOf pts) i t (i+n) c)=rest at hrt
    refine⟨_,rfl,.inl ⟨rfl,_,SqL.of hws'⟩,_,rfl,rt,_,_,_,rfl,rfl,SqT.of hrt,at_of (j:=0) rfl rfl,_,_,rfl,rfl,_,rfl,rt,_,_,_,rfl,rfl,SqT.of hrt,at_of (j:=1) rfl rfl,_,rfl,_,_,rfl,rfl,_,rfl,_,rfl,_,rfl,_,rfl,(by show 5≤sizeLine;decide),λqt hqt=>?_⟩
    have hwl2:ws.length=_:=Paired.length wps
    rw[List.length_map,List.length_take] at hwl2
    refine⟨wl,_,_,rfl,rfl,za8 hqt _ _ hws',by rw[List.length_map];omega,?_⟩
    refine⟨_,_,_,_,_,_,rfl,Kept.comp (Kept.comp k1 (Same.kept _ sK)) (zfE hqt),?_⟩
    rw[zau er,List.map_append]
    have ec:candV (candOf (cdsOf pts) rows i t (n,tu,c,kp))=[.int ((rest.d:Int)+1),.int (-(rest.kept:Int) - (kp:Int)),.int (-(n:Int)),nat tu,nat c]:=by
     unfold candOf candV
     show [nat ((pick (rows.getD (n - 1) (noC,noC)) (behind (cdsOf pts) i t (i+n) c)).d+1),V.int (-(((pick (rows.getD (n - 1) (noC,noC)) (behind (cdsOf pts) i t (i+n) c)).kept+kp:Nat):Int)),V.int (-(n:Int)),nat tu,nat c]=_
     rw[hR]
     congr 2
     congr 1
     omega
    have:=zc0 (xs:=[.int ((rest.d:Int)+1),.int (-(rest.kept:Int) - (kp:Int)),.int (-(n:Int)),nat tu,nat c]) hws' (TupsAt.same wps sK) hqt
    rw[List.map_cons,List.map_nil,ec]
    exact this
  ·rintro σ H' ⟨v6,v7,v8,v9,v10,v11,rfl,k1,ws,hws,wps⟩
   have el:(ts.map V.ref).length=fd.length:=by rw[List.length_map,htl]
   rw[el,List.take_length] at wps
   have sH':Same H H':=zcP sH1 k1 (by simpa using hwl)
   have hne:fd≠[]:=by rw[←hfd];exact zkT (by omega) hcap
   have wp2:Paired (λt ns=>SqT K H' t (ns.map V.int)) ws ((fd.map (candOf (cdsOf pts) rows i t)).map candI):=by
    have gen:∀{ws:List Addr} {fd:List (Nat×Nat×Nat×Nat)},TupsAt H' ws (fd.map λx=>candV (candOf (cdsOf pts) rows i t x))→Paired (λt ns=>SqT K H' t (ns.map V.int)) ws ((fd.map (candOf (cdsOf pts) rows i t)).map candI):=by
     intro ws fd
     induction fd generalizing ws with
     | nil=>intro h;cases h;exact .nil
     | cons a fd ih =>
      intro h
      cases h with
      | cons h1 h2=>exact .cons (SqT.of h1) (ih h2)
    exact gen wps
   refine⟨_,rfl,wl,ws,_,rfl,SqL.of hws,wp2,λz=>hne (List.map_eq_nil_iff.mp (List.map_eq_nil_iff.mp z)),λtt htt=>?_⟩
   have hb:=zn1 (fd.map (candOf (cdsOf pts) rows i t)) (λz=>hne (List.map_eq_nil_iff.mp z))
   obtain⟨xs,e1,e2⟩:=Paired.get1 wps htt
   have e3:(fd.map λx=>candV (candOf (cdsOf pts) rows i t x))=(fd.map (candOf (cdsOf pts) rows i t)).map candV:=by rw[List.map_map];rfl
   rw[e3,List.getElem?_map,hb] at e1
   have e1:=Option.some.inj e1
   subst e1
   exact k H' tt sH' e2
end
end Pd
end
section
namespace Pd
open PySem PySem.Spec PyProof.Rows L2
open Vbpoan (State Point Old Retired codesOf loadsOf isFree pointOf inside spread nsum)
theorem zdW (kvs:List (List Key×V)) (i:Nat) (c:Bool) (y:V) (e:Nat) (b:Bool):valV (putK kvs (bkey i c) y) (bkey e b)=if e=i∧b=c then some y else valV kvs (bkey e b):=by
 rw[zp3]
 by_cases h:e=i∧b=c
 ·rw[if_pos h,if_pos (zmF.mpr h)]
 ·rw[if_neg h,if_neg (λz=>h (zmF.mp z))]
structure BestIn (H:Hp) (d:Addr) (codes:List Nat) (i:Nat) (rows:List (Cand×Cand)) (x:Cand×Cand) (full:Bool) (N:Nat):Prop where
 ex:∃kvs,H d=some (.dT kvs)∧kvs.length≤N∧(∀e b,i+1≤e→Need codes e b→∃tt,valV kvs (bkey e b)=some (.ref tt)∧H tt=some (.tup (candV (pick (rows.getD (e - (i+1)) (noC,noC)) b))))∧
  (∃tt,valV kvs (bkey i false)=some (.ref tt)∧H tt=some (.tup (candV x.1)))∧(full=true→Need codes i true→∃tt,valV kvs (bkey i true)=some (.ref tt)∧H tt=some (.tup (candV x.2)))
theorem zmq {κ:Type} [DecidableEq κ] (kvs:List (κ×V)) (k:κ) (v:V):(putK kvs k v).length≤kvs.length+1:=zeW kvs k v
section
variable {P:Program} {w:World} {K:PySem.W.Frag} {mg:Str→Option Value} {base:Heap} {Ad:Adr}
def zch:Stmt:=top 35
theorem zcO:FnScope ["points","cap","best","start"] ["points","cap"] (defScope zch):=⟨rfl,rfl,rfl,by decide +kernel,rfl,by decide +kernel,by decide +kernel⟩
def ze3 (CP:Addr):Sp:=λvs H Q _=>∃pl as pts,∃cap:Nat,vs=[.ref pl,nat cap]∧PtsAt CP H pl as pts∧pts.length≤40∧Ctg (cdsOf pts)∧(∀l∈ldsOf pts,l≤cap)∧
 ∀H' d,Same H H'→BestAt H' d (cdsOf pts) 0 (tab cap (ldsOf pts) (cdsOf pts) pts.length 0)→Q (.ref d) H'
theorem zhG (D:DefIn K mg "best_choices" zch ["points","cap"]) (T:Txt K mg Ad) (zcG:Callable P w K mg base 2 "best_choice" ["points","cap","start","is_taken","best"] (zeB Ad.CP)) :
  Callable P w K mg base 3 "best_choices" ["points","cap"] (ze3 Ad.CP):=by
 refine D.ok (k:=2) zcO (λvs H Q E h=>?_) (λf cdv A outer s H vs Q E hr h=>?_)
 ·obtain⟨pl,as,pts,cap,rfl,_⟩:=h;rfl
 ·obtain⟨pl,as,pts,cap,rfl,hp,h40,hC,hcap,k⟩:=h
  have line:sizeLine=16777216:=sizeLine_eq
  have hlp:=hp.len
  have hlc:(cdsOf pts).length=pts.length:=List.length_map ..
  have elen:(as.map λx=>V.ref x.1).length=pts.length:=by rw[List.length_map,hlp]
  refine⟨_,(za2 (zah (i:=2) zcO.nd rfl (by first|exact Or.inl rfl|exact Or.inr rfl) (zpp hr.units0 (zd9 (za0 (zai zaa rfl T.b_len PySem.boot_len (za0 (pv 0) za4)) (za0 pe_bl za4))) (zd9 (za0 zae (za0 zae (za0 zae (za0 zae (za0 (zaq rfl T.zen) za4))))))))
   (za2 (zbB ownP rfl (znM rfl T.zmd (za0 (pe_op zgK (zai zaa rfl T.b_len PySem.boot_len (za0 (pv 0) za4)) zae) (za0 (pe_un zey zae) (za0 (pe_un zey zae) za4)))) (zaj (i:=3) zcO.nd rfl (by first|exact Or.inl rfl|exact Or.inr rfl)) (za2 (zeO (hu_of hr) (pv 2) (zd9 (za0 (pv 3) (za0 pe_bl za4))) (pe_fn zcG (hr.mono (by decide)) rfl passN (za0 (pv 0) (za0 (pv 1) (za0 (pv 3) (za0 pe_bl (za0 (pv 2) za4)))))) rfl)
   (za5 (ps_if (PW.pt (zmk (zaf op_gt (pv 3) zae (nomark _)) (zjw (zaf op_eq (zab (pe_ix zcS (pv 0) (pe_op zgK (pv 3) zae) (λ_ _=>rfl)) rfl) (zab (pe_ix zcS (pv 0) (pv 3) (λ_ _=>rfl)) rfl) (nomark _))))) (za5 (zeO (hu_of hr) (pv 2) (zd9 (za0 (pv 3) (za0 pe_bl za4))) (pe_fn zcG (hr.mono (by decide)) rfl passN (za0 (pv 0) (za0 (pv 1) (za0 (pv 3) (za0 pe_bl (za0 (pv 2) za4)))))) rfl)) zag))))
   (za5 (zac (pv 2))))),?_⟩
  refine znB (λσ' H1=>∃d,σ'=[some (.ref pl),some (nat cap),some (.ref d),none]∧H d=none∧Same H H1∧BestAt H1 d (cdsOf pts) (pts.length - 0) (tab cap (ldsOf pts) (cdsOf pts) 0 (pts.length - 0))∧∀kvs,H1 d=some (.dT kvs)→kvs.length≤2 * 0+1) (λD' hD'=>?_) ?_
  ·intro d hd
   have s0:∀o:HO,Same H (upd H d o):=λo=>za8 hd
   refine⟨_,rfl,pl,_,rfl,.inl (SqL.of (s0 _ _ _ hp.lst)),(by show 2≤sizeLine;decide),λkt hkt=>?_⟩
   have ndk:d≠kt:=λz=>by rw[←z,za1] at hkt;cases hkt
   refine⟨(by show 5≤sizeLine;decide),λvt hvt=>?_⟩
   have ndv:d≠vt:=λz=>by rw[←z,za6 ndk,za1] at hvt;cases hvt
   have nkv:kt≠vt:=λz=>by rw[←z,za1] at hvt;cases hvt
   refine⟨by rw[za6 ndv,za6 ndk,za1],kt,bkey pts.length false,rfl,?_,?_⟩
   ·refine zij ?_
    rw[za6 nkv,za1,elen]
   have hkt0:H kt=none:=by rw[za6 (Ne.symm ndk)] at hkt;exact hkt
   have hvt0:H vt=none:=by rw[za6 (Ne.symm nkv),za6 (Ne.symm ndv)] at hvt;exact hvt
   refine hD' _ _ ⟨d,rfl,hd,λb o e=>?_,⟨_,za1,by show 1≤1000;decide,λe b he hn=>⟨vt,?_,?_⟩⟩,λkvs z=>by rw[za1] at z;cases z;exact Nat.le_refl _⟩
   ·rw[za6 (za7 e hd),za6 (za7 e hvt0),za6 (za7 e hkt0),za6 (za7 e hd)];exact e
   ·have h1:=hn.le
    have hb:b=false:=by
     cases b with
     | false=>rfl
     | true=>have:=(hn.yes rfl).2.1;omega
    have he2:e=pts.length:=by omega
    subst hb he2
    exact zbk rfl
   ·rw[za6 (Ne.symm ndv),za1]
    have h1:=hn.le
    have he2:e - (pts.length - 0)=0:=by omega
    rw[he2]
    cases b<;>rfl
  ·rintro σ' H1 ⟨d,rfl,hd,sH1,b0,len0⟩
   have en:((((as.map λx=>V.ref x.1).length:Nat):Int) - 1 - (-1)).toNat=pts.length:=by rw[elen];omega
   refine⟨_,rfl,pl,_,rfl,.inl (SqL.of (sH1 _ _ hp.lst)),_,_,rfl,rfl,_,rfl,_,rfl,_,_,_,_,rfl,RgC.neg (by omega) (by rw[elen];omega) (by decide) (by decide),zn7
    (λm σ H'=>∃v,σ=[some (.ref pl),some (nat cap),some (.ref d),v]∧Same H H'∧BestAt H' d (cdsOf pts) (pts.length - m) (tab cap (ldsOf pts) (cdsOf pts) m (pts.length - m))∧∀kvs,H' d=some (.dT kvs)→kvs.length≤2 * m+1) ⟨none,rfl,sH1,b0,len0⟩ ?_ ?_⟩
   ·intro m σ H' hm hP
    rw[en] at hm
    obtain⟨v,rfl,s1,b1,hlen⟩:=hP
    obtain⟨i,hi⟩:∃i,pts.length - m=i+1:=⟨pts.length - m - 1,by omega⟩
    have hin:i < pts.length:=by omega
    have ev:V.int (((((as.map λx=>V.ref x.1).length:Nat):Int) - 1)+(m:Nat) * (-1))=nat i:=congrArg V.int (by rw[elen];omega)
    have em:pts.length - (m+1)=i:=by omega
    rw[hi] at b1
    rw[em,zjk]
    show gName 3 _ _ _ _
    rw[ev]
    generalize hrows:tab cap (ldsOf pts) (cdsOf pts) m (i+1)=rows at b1 ⊢
    refine⟨_,rfl,_,rfl,_,rfl,_,rfl,pl,as,pts,cap,i,false,d,rows,rfl,hp.same s1,h40,hin,hC,hcap,b1,λH2 tt s2 htt=>?_⟩
    refine⟨_,rfl,_,rfl,(by show 2≤sizeLine;decide),λkt hkt=>?_⟩
    have sK:Same H2 (upd H2 kt (.tup [nat i,.bl false])):=za8 hkt
    obtain⟨kvs,hd1,_,hall1⟩:=id b1
    have hd2:=sK _ _ (s2 _ _ hd1)
    have hkl:=hlen kvs hd1
    have hall:∀e b,i+1≤e→Need (cdsOf pts) e b→∃tt,valV kvs (bkey e b)=some (.ref tt)∧upd H2 kt (.tup [nat i,.bl false]) tt=some (.tup (candV (pick (rows.getD (e - (i+1)) (noC,noC)) b))):=λe b he hn=>let ⟨t2,a,c⟩:=hall1 e b he hn;⟨t2,a,sK _ _ (s2 _ _ c)⟩
    refine⟨d,_,rfl,DPut.t (k:=bkey i false) hd2 (zij za1) (by omega),?_⟩
    have keepT:∀(y:Addr) (xs:List V),H2 y=some (.tup xs)→upd (upd H2 kt (.tup [nat i,.bl false])) d (.dT (putK kvs (bkey i false) (.ref tt))) y=some (.tup xs):=λy xs e=>by
     rw[za6 (ne_of (sK _ _ e) hd2 (λz=>nomatch z))];exact sK _ _ e
    have s3:Same H (upd (upd H2 kt (.tup [nat i,.bl false])) d (.dT (putK kvs (bkey i false) (.ref tt)))):=λb o e=>by
     rw[za6 (za7 e hd)];exact sK _ _ (s2 _ _ (s1 _ _ e))
    have b3:BestIn (upd (upd H2 kt (.tup [nat i,.bl false])) d (.dT (putK kvs (bkey i false) (.ref tt)))) d (cdsOf pts) i rows (best1 ((firstD cap (ldsOf pts) (cdsOf pts) i false).map (candOf (cdsOf pts) rows i false)),best1 ((firstD cap (ldsOf pts) (cdsOf pts) i true).map (candOf (cdsOf pts) rows i true))) false (2 * m+2):=by
     refine⟨_,za1,?_,λe b he hn=>?_,⟨tt,?_,keepT _ _ htt⟩,λz=>nomatch z⟩
     ·have:=zmq kvs (bkey i false) (.ref tt)
      omega
     ·obtain⟨t2,e1,e2⟩:=hall e b he hn
      refine⟨t2,by rw[zdW,if_neg (by omega)];exact e1,?_⟩
      rw[za6 (ne_of e2 hd2 (λz=>nomatch z))]
      exact e2
     ·rw[zdW,if_pos ⟨rfl,rfl⟩]
    generalize upd (upd H2 kt (.tup [nat i,.bl false])) d (.dT (putK kvs (bkey i false) (.ref tt)))=H3 at s3 b3
    have hkvs:=b3.ex
    obtain⟨kvs3,hd3,hkl3,hall3,hf3,_⟩:=hkvs
    have b1':BestAt H3 d (cdsOf pts) (i+1) rows:=⟨kvs3,hd3,by omega,hall3⟩
    have fin:∀H5,Same H H5→BestIn H5 d (cdsOf pts) i rows (best1 ((firstD cap (ldsOf pts) (cdsOf pts) i false).map (candOf (cdsOf pts) rows i false)),best1 ((firstD cap (ldsOf pts) (cdsOf pts) i true).map (candOf (cdsOf pts) rows i true))) true (2 * m+3)→
      ∃v,([some (.ref pl),some (nat cap),some (.ref d),some (nat i)]:L2.St)=[some (.ref pl),some (nat cap),some (.ref d),v]∧Same H H5∧BestAt H5 d (cdsOf pts) i ((best1 ((firstD cap (ldsOf pts) (cdsOf pts) i false).map (candOf (cdsOf pts) rows i false)),best1 ((firstD cap (ldsOf pts) (cdsOf pts) i true).map (candOf (cdsOf pts) rows i true)))::rows)∧∀kvs,H5 d=some (.dT kvs)→kvs.length≤2 * (m+1)+1:=by
     intro H5 s5 ⟨kvs5,h51,h52,h53,h54,h55⟩
     refine⟨_,rfl,s5,⟨kvs5,h51,by omega,λe b he hn=>?_⟩,λkvs z=>by rw[h51] at z;cases z;omega⟩
     by_cases q:e=i
     ·subst q
      rw[Nat.sub_self]
      cases b with
      | false=>exact h54
      | true=>exact h55 rfl hn
     ·have e1:e - i=(e - (i+1))+1:=by omega
      rw[e1]
      exact h53 e b (by omega) hn
    have skip:¬ Need (cdsOf pts) i true→BestIn H3 d (cdsOf pts) i rows (best1 ((firstD cap (ldsOf pts) (cdsOf pts) i false).map (candOf (cdsOf pts) rows i false)),best1 ((firstD cap (ldsOf pts) (cdsOf pts) i true).map (candOf (cdsOf pts) rows i true))) true (2 * m+3):=λhno =>
     ⟨kvs3,hd3,by omega,hall3,hf3,λ_ z=>(hno z).elim⟩
    refine⟨_,rfl,_,_,rfl,rfl,_,rfl,ite2 (λh1=>?_) (λh1=>?_)⟩
    ·have h1:(0:Int) < (i:Int):=of_decide_eq_true h1
     obtain⟨x,hx⟩:∃x,as[i]?=some x:=⟨_,List.getElem?_eq_getElem (by omega)⟩
     obtain⟨x0,hx0⟩:∃x,as[i - 1]?=some x:=⟨_,List.getElem?_eq_getElem (by omega)⟩
     obtain⟨p,hpp,dx,fs,ex,F⟩:=Paired.get1 hp.pt hx
     obtain⟨p0,hpp0,dx0,fs0,ex0,F0⟩:=Paired.get1 hp.pt hx0
     have hcd:(cdsOf pts).getD i 0=p.code:=by rw[List.getD_eq_getElem?_getD,List.getElem?_map,hpp];rfl
     have hcd0:(cdsOf pts).getD (i - 1) 0=p0.code:=by rw[List.getD_eq_getElem?_getD,List.getElem?_map,hpp0];rfl
     refine⟨_,rfl,_,rfl,_,_,rfl,rfl,pl,_,_,_,rfl,rfl,SqL.of (s3 _ _ hp.lst),at_of (j:=i - 1) (by omega) (by rw[List.getElem?_map,hx0];rfl),x0.1,Ad.CP,dx0,fs0,_,rfl,s3 _ _ ex0,T.clCP,T.zb2,F0.code,
      _,rfl,_,rfl,pl,_,_,_,rfl,rfl,SqL.of (s3 _ _ hp.lst),at_of (j:=i) rfl (by rw[List.getElem?_map,hx];rfl),x.1,Ad.CP,dx,fs,_,rfl,s3 _ _ ex,T.clCP,T.zb2,F.code,rfl,_,rfl,ite2 (λh2=>?_) (λh2=>?_)⟩
     ·refine⟨_,rfl,_,rfl,_,rfl,_,rfl,pl,as,pts,cap,i,true,d,rows,rfl,hp.same s3,h40,hin,hC,hcap,b1',λH4 t4 s4 ht4=>?_⟩
      refine⟨_,rfl,_,rfl,(by show 2≤sizeLine;decide),λk4 hk4=>?_⟩
      have sK4:Same H4 (upd H4 k4 (.tup [nat i,.bl true])):=za8 hk4
      have hd4:=sK4 _ _ (s4 _ _ hd3)
      refine⟨d,_,rfl,DPut.t (k:=bkey i true) hd4 (zij za1) (by omega),?_⟩
      have keep4:∀(y:Addr) (xs:List V),H4 y=some (.tup xs)→upd (upd H4 k4 (.tup [nat i,.bl true])) d (.dT (putK kvs3 (bkey i true) (.ref t4))) y=some (.tup xs):=λy xs e=>by
       rw[za6 (ne_of (sK4 _ _ e) hd4 (λz=>nomatch z))];exact sK4 _ _ e
      refine fin _ (λb o e=>?_) ⟨_,za1,?_,λe b he hn=>?_,?_,λ_ _=>⟨t4,?_,keep4 _ _ ht4⟩⟩
      ·rw[za6 (za7 e hd)];exact sK4 _ _ (s4 _ _ (s3 _ _ e))
      ·have:=zmq kvs3 (bkey i true) (.ref t4)
       omega
      ·obtain⟨t2,e1,e2⟩:=hall3 e b he hn
       exact⟨t2,by rw[zdW,if_neg (by omega)];exact e1,keep4 _ _ (s4 _ _ e2)⟩
      ·obtain⟨t2,e1,e2⟩:=hf3
       exact⟨t2,by rw[zdW,if_neg (λz=>nomatch z.2)];exact e1,keep4 _ _ (s4 _ _ e2)⟩
      ·rw[zdW,if_pos ⟨rfl,rfl⟩]
     ·refine fin H3 s3 (skip λz=>h2 (zaQ.mpr ?_))
      have:=(z.yes rfl).2.2
      rw[hcd,hcd0] at this
      exact this
    ·refine iteF (fin H3 s3 (skip λz=>h1 (decide_eq_true ?_)))
     have:=(z.yes rfl).1
     show (0:Int) < (i:Int)
     omega
   ·intro σ H' hP
    rw[en] at hP
    obtain⟨v,rfl,s1,b1,_⟩:=hP
    rw[Nat.sub_self] at b1
    exact⟨_,rfl,k H' d s1 b1⟩
def zbH:Stmt:=top 36
theorem zao:FnScope ["points","cap","best","districts","start","is_taken","choice","size","code"] ["points","cap"] (defScope zbH):=⟨rfl,rfl,rfl,by decide +kernel,rfl,by decide +kernel,by decide +kernel⟩
def zdn (CP:Addr):Sp:=λvs H Q _=>∃pl as pts,∃cap:Nat,vs=[.ref pl,nat cap]∧PtsAt CP H pl as pts∧pts.length≤40∧Ctg (cdsOf pts)∧(∀l∈ldsOf pts,l≤cap)∧
 ∀H' l,Same H H'→H l=none→RowsAt H' l ((walk (cdsOf pts) ((ldsOf pts).length+1) 0 false (tab cap (ldsOf pts) (cdsOf pts) (ldsOf pts).length 0)).map pairV)→Q (.ref l) H'
theorem zg1 (D:DefIn K mg "best_districts" zbH ["points","cap"]) (T:Txt K mg Ad) (zdj:Callable P w K mg base 3 "best_choices" ["points","cap"] (ze3 Ad.CP))
  (zaM:Callable P w K mg base 1 "is_taken_behind" ["points","start","is_taken","end","code"] (zbS Ad.CP)):Callable P w K mg base 4 "best_districts" ["points","cap"] (zdn Ad.CP):=by
 refine D.ok (k:=3) zao (λvs H Q E h=>?_) (λf cdv A outer s H vs Q E hr h=>?_)
 ·obtain⟨pl,as,pts,cap,rfl,_⟩:=h;rfl
 ·obtain⟨pl,as,pts,cap,rfl,hp,h40,hC,hcap,k⟩:=h
  have line:sizeLine=16777216:=sizeLine_eq
  have hlp:=hp.len
  have hlc:(cdsOf pts).length=pts.length:=List.length_map ..
  have hll:(ldsOf pts).length=pts.length:=List.length_map ..
  have elen:(as.map λx=>V.ref x.1).length=pts.length:=by rw[List.length_map,hlp]
  rw[hll] at k
  refine⟨_,(za2 (zah (i:=2) zao.nd rfl (by first|exact Or.inl rfl|exact Or.inr rfl) (pe_fn zdj (hr.mono (by decide)) rfl passN (za0 (pv 0) (za0 (pv 1) za4))))
   (za2 (zah (i:=3) zao.nd rfl (by first|exact Or.inl rfl|exact Or.inr rfl) (zas za4))
   (za2 (zah (i:=4) zao.nd rfl (by first|exact Or.inl rfl|exact Or.inr rfl) zae)
   (za2 (zah (i:=5) zao.nd rfl (by first|exact Or.inl rfl|exact Or.inr rfl) pe_bl)
   (za2 (zml ownP (zaf op_lt (pv 4) (zai zaa rfl T.b_len PySem.boot_len (za0 (pv 0) za4)) (nomark _)) (za2 (zah (i:=6) zao.nd rfl (by first|exact Or.inl rfl|exact Or.inr rfl) (zlt (hu_of hr) (pv 2) (zd9 (za0 (pv 4) (za0 (pv 5) za4))) (λ_ _=>rfl)))
   (za2 (zah (i:=7) zao.nd rfl (by first|exact Or.inl rfl|exact Or.inr rfl) (pe_un zey (pe_ix zms (pv 6) zae (λ_ _=>rfl))))
   (za2 (zah (i:=8) zao.nd rfl (by first|exact Or.inl rfl|exact Or.inr rfl) (pe_ix zms (pv 6) zae (λ_ _=>rfl)))
   (za2 (zaA (pe_bm PySem.F.plainAttrs_list PySem.F.slot_list_append PySem.F.type_list_append zcn (pv 3) (za0 (zd9 (za0 (pv 7) (za0 (pv 8) za4))) za4)))
   (za2 (zah (i:=5) zao.nd rfl (by first|exact Or.inl rfl|exact Or.inr rfl) (pe_fn zaM (hr.mono (by decide)) rfl passN (za0 (pv 0) (za0 (pv 4) (za0 (pv 5) (za0 (pe_op zcm (pv 4) (pv 7)) (za0 (pv 8) za4)))))))
   (za5 (znH (i:=4) zao.nd rfl (by first|exact Or.inl rfl|exact Or.inr rfl) (pv 7) zoe))))))))
   (za5 (zac (pv 3)))))))),?_⟩
  refine⟨_,rfl,_,rfl,pl,as,pts,cap,rfl,hp,h40,hC,hcap,λH1 d s1 hb=>?_⟩
  refine⟨Nat.zero_le _,λdl hdl=>?_⟩
  have s2:Same H1 (upd H1 dl (.lst [])):=za8 hdl
  have hdl0:H dl=none:=s1.free hdl
  generalize hW:walk (cdsOf pts) (pts.length+1) 0 false (tab cap (ldsOf pts) (cdsOf pts) pts.length 0)=W at k
  refine zp2 (λσ H'=>∃(i:Nat) (t:Bool) (acc:List (Nat×Nat)) (u:Nat),∃v6 v7 v8,σ=[some (.ref pl),some (nat cap),some (.ref d),some (.ref dl),some (nat i),some (.bl t),v6,v7,v8]∧Kept [dl] H1 H'∧RowsAt H' dl (acc.map pairV)∧acc.length≤i∧
    i≤pts.length∧Need (cdsOf pts) i t∧pts.length - i < u∧W=acc++walk (cdsOf pts) u i t (tab cap (ldsOf pts) (cdsOf pts) (pts.length - i) i))
   (λ(σ:L2.St) (_:Hp)=>match σ[4]? with|some (some (V.int z))=>pts.length - z.toNat|_=>0) ?_ ?_ ?_
  ·exact⟨0,false,[],pts.length+1,none,none,none,rfl,λb o e hb=>s2 _ _ e,⟨[],za1,.nil⟩,Nat.zero_le _,Nat.zero_le _,⟨Nat.zero_le _,λz=>nomatch z⟩,by omega,by rw[List.nil_append,Nat.sub_zero];exact hW.symm⟩
  ·rintro σ H' ⟨i,t,acc,u,v6,v7,v8,rfl,k1,⟨ts,hts,tps⟩,hai,hi,hneed,hu,hWe⟩
   have sH':Same H H':=zcP s1 k1 (by simpa using hdl0)
   refine⟨_,rfl,_,rfl,pl,_,rfl,.inl (SqL.of (sH' _ _ hp.lst)),_,_,rfl,rfl,_,rfl,?_⟩
   rw[elen]
   refine ite2 (λhlt=>?_) (λhlt=>?_)
   ·have hlt:(i:Int) < (pts.length:Int):=of_decide_eq_true hlt
    have hlt:i < pts.length:=by omega
    obtain⟨u',rfl⟩:∃u',u=u'+1:=⟨u - 1,by omega⟩
    obtain⟨g,hg⟩:∃g,pts.length - i=g+1:=⟨pts.length - i - 1,by omega⟩
    have ok:=zkt (cap:=cap) (loads:=ldsOf pts) (codes:=cdsOf pts) (f:=g) (i:=i) (by omega) hcap t
    have hb':BestAt H' d (cdsOf pts) 0 (tab cap (ldsOf pts) (cdsOf pts) pts.length 0):=by
     obtain⟨kvs,h1,h2,h3⟩:=hb
     have ndd:d≠dl:=za7 h1 hdl
     refine⟨kvs,k1 _ _ h1 (by simpa using ndd),h2,λe b he hn=>?_⟩
     obtain⟨tt,e1,e2⟩:=h3 e b he hn
     exact⟨tt,e1,k1 _ _ e2 (by simpa using za7 e2 hdl)⟩
    refine⟨_,rfl,_,rfl,_,rfl,(by show 2≤sizeLine;decide),λkt hkt=>?_⟩
    have sK:Same H' (upd H' kt (.tup [nat i,.bl t])):=za8 hkt
    obtain⟨kvs,hd2,_,hall⟩:=hb'.same sK
    obtain⟨ct,hv,hct⟩:=hall i t (Nat.zero_le _) hneed
    refine⟨d,.ref ct,rfl,hv ▸ DGet.t hd2 (zij za1),?_⟩
    rw[Nat.sub_zero,zji _ _ _ i pts.length 0 (by omega),Nat.zero_add,hg] at hct
    rw[hg] at hWe
    have hwk:walk (cdsOf pts) (u'+1) i t (tab cap (ldsOf pts) (cdsOf pts) (g+1) i)=((pick ((tab cap (ldsOf pts) (cdsOf pts) (g+1) i).headD (noC,noC)) t).size,(pick ((tab cap (ldsOf pts) (cdsOf pts) (g+1) i).headD (noC,noC)) t).code) ::
      walk (cdsOf pts) u' (i+(pick ((tab cap (ldsOf pts) (cdsOf pts) (g+1) i).headD (noC,noC)) t).size) (behind (cdsOf pts) i t (i+(pick ((tab cap (ldsOf pts) (cdsOf pts) (g+1) i).headD (noC,noC)) t).size) (pick ((tab cap (ldsOf pts) (cdsOf pts) (g+1) i).headD (noC,noC)) t).code) ((tab cap (ldsOf pts) (cdsOf pts) (g+1) i).drop (pick ((tab cap (ldsOf pts) (cdsOf pts) (g+1) i).headD (noC,noC)) t).size):=by
     rw[zjk]
     show (if (cdsOf pts).length≤i then [] else _)=_
     rw[if_neg (by omega)]
     rfl
    generalize hc:pick ((tab cap (ldsOf pts) (cdsOf pts) (g+1) i).headD (noC,noC)) t=c at hct hwk ok
    have okp:1≤c.size:=ok.pos
    have okl:i+c.size≤(ldsOf pts).length:=ok.le
    rw[zjj _ _ _ c.size (g+1) i (by omega)] at hwk
    rw[hwk] at hWe
    have esz:V.int (-(-(c.size:Int)))=nat c.size:=congrArg V.int (by omega)
    have hts2:=sK _ _ hts
    refine⟨_,rfl,ct,_,_,_,rfl,rfl,SqT.of hct,at_of (j:=2) rfl rfl,_,rfl,?_⟩
    show gName 7 (V.int (-(-(c.size:Int)))) _ _ _
    rw[esz]
    refine⟨_,rfl,ct,_,_,_,rfl,rfl,SqT.of hct,at_of (j:=4) rfl rfl,?_⟩
    refine⟨_,rfl,.inl ⟨rfl,_,SqL.of hts2⟩,_,rfl,_,rfl,(by show 2≤sizeLine;decide),λtt htt=>?_⟩
    have htl:ts.length=_:=Paired.length tps
    rw[List.length_map] at htl
    refine⟨dl,_,_,rfl,rfl,za8 htt _ _ hts2,by rw[List.length_map];omega,?_⟩
    have k5:Kept [dl] H1 (upd (upd (upd H' kt (.tup [nat i,.bl t])) tt (.tup [nat c.size,nat c.code])) dl (.lst (ts.map V.ref++[.ref tt]))):=Kept.comp (Kept.comp k1 (Same.kept _ sK)) (zfE htt)
    have sH5:=zcP s1 k5 (by simpa using hdl0)
    refine⟨_,rfl,_,rfl,_,rfl,_,rfl,_,rfl,_,_,rfl,rfl,_,rfl,pl,as,pts,i,i+c.size,c.code,t,rfl,hp.same sH5,hlt,by omega,?_⟩
    refine⟨_,rfl,_,rfl,_,_,rfl,rfl,⟨i+c.size,behind (cdsOf pts) i t (i+c.size) c.code,acc++[(c.size,c.code)],u',_,_,_,rfl,k5,?_,?_,by omega,zhJ hC okp (by omega) ok.code,by omega,?_⟩,?_⟩
    ·rw[List.map_append]
     exact zc0 hts2 (TupsAt.same tps sK) htt
    ·rw[List.length_append]
     show acc.length+1≤_
     omega
    ·rw[hWe,List.append_assoc]
     have:pts.length - (i+c.size)=g+1 - c.size:=by omega
     rw[this]
     rfl
    ·show pts.length - ((i:Int)+(c.size:Int)).toNat < pts.length - ((i:Int)).toNat
     omega
   ·have hlt:¬ (i:Int) < (pts.length:Int):=λz=>hlt (decide_eq_true z)
    have hie:i=pts.length:=by omega
    have hend:walk (cdsOf pts) u i t (tab cap (ldsOf pts) (cdsOf pts) (pts.length - i) i)=[]:=by
     obtain⟨u',rfl⟩:∃u',u=u'+1:=⟨u - 1,by omega⟩
     have:pts.length - i=0:=by omega
     rw[this]
     show (if (cdsOf pts).length≤i then [] else _)=_
     rw[if_pos (by omega)]
    rw[hend,List.append_nil] at hWe
    exact⟨_,rfl,k H' dl sH' hdl0 (by rw[hWe];exact⟨ts,hts,tps⟩)⟩
  ·rintro σ H Q Q' himp ⟨v,e1,y,e2,p,ys,e3,e4,a,b,e5,e6,c,e7,q⟩
   exact⟨v,e1,y,e2,p,ys,e3,e4,a,b,e5,e6,c,e7,himp _ _ q⟩
end
end Pd
end
section
namespace Pd
open PySem PySem.Spec PyProof.Rows L2
open Vbpoan (State Point Old Retired codesOf loadsOf isFree pointOf inside spread nsum)
theorem zhi (codes:List Nat):∀(u i:Nat) (t:Bool) (rows:List (Cand×Cand)),(walk codes u i t rows).length≤u
 | 0,_,_,_=>Nat.le_refl _
 | u+1,i,t,[]=>Nat.zero_le _
 | u+1,i,t,x::r=>by
  show (if codes.length≤i then [] else _:List (Nat×Nat)).length≤_
  split
  ·exact Nat.zero_le _
  ·rw[List.length_cons]
   exact Nat.succ_le_succ (zhi codes u _ _ _)
theorem ix0 (b:Nat) (rest:List Nat):seqIndex? 0 (natL (b::rest)).length=some 0:=by
 unfold seqIndex?
 simp
theorem zjQ (ds:List (Nat×Nat)):((ds.filter λx=>x.2 == 0).map λx=>nat x.2).length=wanted ds:=by rw[List.length_map];rfl
section
variable {P:Program} {w:World} {K:PySem.W.Frag} {mg:Str→Option Value} {base:Heap} {Ad:Adr}
def zbd:Stmt:=top 37
theorem zat:FnScope ["town","districts","wanted","size","code","free","named"] ["town","districts"] (defScope zbd):=⟨rfl,rfl,rfl,by decide +kernel,rfl,by decide +kernel,by decide +kernel⟩
theorem zet:BlkOk ["town","districts","wanted","size","code","free","named"] (defScope zbd) { kind:=.function,names:=[(PySem.Str.ofString ".0",.local),(PySem.Str.ofString "size",.local),(PySem.Str.ofString "code",.local),(PySem.Str.ofString "NEW_CODE",.globalImplicit)],isGenerator:=false,isCoroutine:=false,more:=[] } [("size",3),("code",4)]:=⟨rfl,by decide +kernel,by decide +kernel,by decide +kernel,by decide +kernel⟩
def zdm (Ad:Adr):Sp:=λvs H Q E=>∃t L s n l ds,vs=[.ref t,.ref l]∧TownAt Ad.CP Ad.CT H t L s∧Good n s∧n≤401∧RowsAt H l (ds.map pairV)∧ds.length≤1000∧
 ((freeL s).length < wanted ds→∀H',Same H H'→E (.ref Ad.eM) none H')∧(wanted ds≤(freeL s).length→∀H' p,Same H H'→H p=none→RowsAt H' p ((named ds (freeL s)).map pairV)→Q (.ref p) H')
theorem zfY (D:DefIn K mg "with_new_codes" zbd ["town","districts"]) (T:Txt K mg Ad) (zaH:Callable P w K mg base 4 "least_free_codes" ["town","wanted"] (zbK Ad.CP Ad.CT)) :
  Callable P w K mg base 5 "with_new_codes" ["town","districts"] (zdm Ad):=by
 refine D.ok (k:=4) zat (λvs H Q E h=>?_) (λf cdv A outer s H vs Q E hr h=>?_)
 ·obtain⟨t,L,s,n,l,ds,rfl,_⟩:=h;rfl
 ·obtain⟨t,L,st,n,l,ds,rfl,tw,G,hn,⟨ts,hts,tps⟩,hlen,kE,kQ⟩:=h
  have line:sizeLine=16777216:=sizeLine_eq
  have htl:ts.length=(ds.map pairV).length:=Paired.length tps
  rw[List.length_map] at htl
  refine⟨_,(za2 (zah (i:=2) zat.nd rfl (by first|exact Or.inl rfl|exact Or.inr rfl) (zai zaa rfl T.b_len PySem.boot_len (za0 (pe_lc rfl zat.nd (zaE (pv 1)) zet (λ_ _ _ _ _=>by exact(zls (K:=K) (n:=2) rfl rfl (zax (zaj (i:=3) zat.nd rfl (by first|exact Or.inl rfl|exact Or.inr rfl)) (zax (zaj (i:=4) zat.nd rfl (by first|exact Or.inl rfl|exact Or.inr rfl)) zde)))) (λ_ _ _ _ _=>by exact zeN (zaf op_eq (pv 4) (zaq rfl T.zen) (nomark _))) (λ_ _ _ _ _=>by exact(pv 4))) za4)))
   (za2 (zah (i:=5) zat.nd rfl (by first|exact Or.inl rfl|exact Or.inr rfl) (pe_fn zaH (hr.mono (by decide)) rfl passN (za0 (pv 0) (za0 (pv 2) za4))))
   (za2 (ps_if (zaf op_lt (zai zaa rfl T.b_len PySem.boot_len (za0 (pv 5) za4)) (pv 2) (nomark _)) (za5 (zd8 rfl T.zej T.zgd)) zag)
   (za2 (zah (i:=6) zat.nd rfl (by first|exact Or.inl rfl|exact Or.inr rfl) (zas za4))
   (za2 (zbB ownP rfl (zaE (pv 1)) (zgJ (n:=2) rfl (zax (zaj (i:=3) zat.nd rfl (by first|exact Or.inl rfl|exact Or.inr rfl)) (zax (zaj (i:=4) zat.nd rfl (by first|exact Or.inl rfl|exact Or.inr rfl)) zde))) (za5 (zaA (pe_bm PySem.F.plainAttrs_list PySem.F.slot_list_append PySem.F.type_list_append zcn (pv 6) (za0 (zd9 (za0 (pv 3) (za0 (zpo (zaf op_eq (pv 4) (zaq rfl T.zen) (nomark _)) (pe_bm PySem.F.plainAttrs_list PySem.F.slot_list_pop PySem.F.type_list_pop zpv (pv 5) (za0 zae za4)) (pv 4)) za4))) za4)))))
   (za5 (zac (pv 6)))))))),?_⟩
  refine⟨_,rfl,l,rfl,⟨_,SqL.of hts⟩,ze5 (K:=K) (a:=l) (xs:=ts.map V.ref) ds (λx=>if (x.2 == 0)=true then some (nat x.2) else none) (SqL.of hts) (by rw[List.length_map,htl]) (by omega) ?_ ?_⟩
  ·intro i x y hx hy H' s1 R hR
   obtain⟨tt,e1,rfl⟩:=zgF hx
   obtain⟨m,c,e2,e3⟩:=zlu tps e1
   rw[hy] at e2
   cases e2
   have hR:=hR H' (Same.refl _)
   refine⟨tt,_,rfl,SqT.of (s1 _ _ e3),rfl,_,_,rfl,_,_,rfl,rfl,rfl,?_⟩
   refine⟨_,rfl,rfl,_,rfl,ite2 (λhc=>?_) (λhc=>?_)⟩
   ·rw[if_pos (by have:=zaQ (b:=0).mp hc;exact beq_iff_eq.mpr this)] at hR
    exact⟨_,rfl,hR⟩
   ·rw[if_neg (λz=>hc (zaQ (b:=0).mpr (eq_of_beq z)))] at hR
    exact hR
  ·intro H1 q s1 n1 hq
   rw[fm_if (λx:Nat×Nat=>x.2 == 0) (λx=>nat x.2)] at hq
   refine⟨q,_,rfl,.inl (SqL.of hq),?_⟩
   show gName 2 (nat _) _ _ _
   rw[zjQ]
   have tw1:=tw.same s1
   refine⟨_,rfl,_,rfl,t,L,st,n,wanted ds,rfl,tw1,G,hn,λH2 fl s2 n2 hfl=>?_⟩
   have sH2:Same H H2:=Same.trans s1 s2
   refine⟨_,rfl,fl,_,rfl,.inl (SqL.of hfl),_,rfl,_,_,rfl,rfl,_,rfl,?_⟩
   rw[List.length_map,List.length_take]
   refine ite2 (λhc=>?_) (λhc=>?_)
   ·have hc:=of_decide_eq_true hc
    exact kE (by omega) H2 sH2
   ·have hw:wanted ds≤(freeL st).length:=by
     by_cases z:wanted ds≤(freeL st).length
     ·exact z
     ·exact absurd (decide_eq_true (by omega)) hc
    have kQ:=kQ hw
    rw[←zg2 ds (freeL st) (wanted ds) (Nat.le_refl _)] at kQ
    have hfr:((freeL st).take (wanted ds)).length=wanted ds:=by rw[List.length_take];omega
    generalize hF:(freeL st).take (wanted ds)=F0 at hfl kQ hfr
    refine⟨Nat.zero_le _,λnl hnl=>?_⟩
    have s3:Same H2 (upd H2 nl (.lst [])):=za8 hnl
    have nfn:fl≠nl:=za7 hfl hnl
    have hfl0:H fl=none:=s1.free n2
    have hnl0:H nl=none:=sH2.free hnl
    refine⟨_,rfl,l,rfl,⟨_,SqL.of (s3 _ _ (sH2 _ _ hts))⟩,zb0 (K:=K) (a:=l) (xs:=ts.map V.ref)
     (λi σ H'=>∃(v3 v4:Option V) (rest:List Nat) (acc:List (Nat×Nat)),σ=[some (.ref t),some (.ref l),some (nat (wanted ds)),v3,v4,some (.ref fl),some (.ref nl)]∧Same H H'∧H' fl=some (.lst (natL rest))∧RowsAt H' nl (acc.map pairV)∧acc.length=i∧named ds F0=acc++named (ds.drop i) rest∧wanted (ds.drop i)≤rest.length)
     ⟨none,none,F0,[],rfl,Same.trans sH2 s3,s3 _ _ hfl,⟨[],za1,.nil⟩,rfl,rfl,by rw[List.drop_zero];omega⟩ (λi σ H' _ ⟨_,_,_,_,_,s4,_⟩=>SqL.of (s4 _ _ hts)) ?_ ?_⟩
    ·rintro i y σ H' hi ⟨v3,v4,rest,acc,rfl,s4,hfl4,⟨us,hus,ups⟩,hacc,hnm,hwr⟩
     obtain⟨tt,e1,rfl⟩:=zgF hi
     obtain⟨m,c,e2,e3⟩:=zlu tps e1
     have hdr:ds.drop i=(m,c)::ds.drop (i+1):=by
      have hlt:i < ds.length:=(List.getElem?_eq_some_iff.mp e2).1
      rw[List.drop_eq_getElem_cons hlt]
      congr 1
      exact(List.getElem?_eq_some_iff.mp e2).2
     rw[hdr] at hnm hwr
     rw[zbh] at hwr
     have hul:us.length=acc.length:=by have:us.length=_:=Paired.length ups;rw[List.length_map] at this;exact this
     have hil:i < ds.length:=(List.getElem?_eq_some_iff.mp e2).1
     refine⟨tt,_,rfl,SqT.of (s4 _ _ e3),rfl,_,_,rfl,_,_,rfl,rfl,?_⟩
     refine⟨_,rfl,.inl ⟨rfl,_,SqL.of hus⟩,_,rfl,_,rfl,rfl,_,rfl,ite2 (λhc=>?_) (λhc=>?_)⟩
     ·have hc:=zaQ (b:=0).mp hc
      subst hc
      rw[if_pos rfl] at hwr
      cases rest with
      | nil=>simp at hwr
      | cons b rest =>
       refine⟨_,rfl,.inl ⟨rfl,_,SqL.of hfl4⟩,fl,_,0,0,nat b,rfl,rfl,hfl4,by decide,by decide,ix0 _ _,rfl,(by show 2≤sizeLine;decide),λqt hqt=>?_⟩
       have nfn4:fl≠nl:=nfn
       have hus5:upd H' fl (.lst ((natL (b::rest)).eraseIdx 0)) nl=some (.lst (us.map V.ref)):=by rw[za6 (Ne.symm nfn)];exact hus
       have ups5:TupsAt (upd H' fl (.lst ((natL (b::rest)).eraseIdx 0))) us (acc.map pairV):=TupsAt.kept ups zaG (λb' hb' xs=>by rw[List.mem_singleton.mp hb',hfl4];intro z;cases z)
       refine⟨nl,_,_,rfl,rfl,za8 hqt _ _ hus5,by rw[List.length_map];omega,?_⟩
       have nfq:fl≠qt:=λz=>by rw[←z,za1] at hqt;cases hqt
       refine⟨_,_,rest,acc++[(m,b)],rfl,λb' o e=>?_,?_,?_,by rw[List.length_append,hacc];rfl,?_,by simp at hwr;omega⟩
       ·have h1:=s4 _ _ e
        have h2:upd H' fl (.lst ((natL (b::rest)).eraseIdx 0)) b'=some o:=by rw[za6 (za7 e hfl0)];exact h1
        rw[za6 (za7 e hnl0),za6 (za7 h2 hqt)]
        exact h2
       ·rw[za6 nfn,za6 nfq,za1]
        rfl
       ·rw[List.map_append]
        exact zc0 hus5 ups5 hqt
       ·rw[hnm,List.append_assoc]
        rfl
     ·have hc:¬ c=0:=λz=>hc (zaQ (b:=0).mpr z)
      rw[if_neg hc,Nat.zero_add] at hwr
      refine⟨_,rfl,(by show 2≤sizeLine;decide),λqt hqt=>?_⟩
      refine⟨nl,_,_,rfl,rfl,za8 hqt _ _ hus,by rw[List.length_map];omega,?_⟩
      have nfq:fl≠qt:=za7 hfl4 hqt
      refine⟨_,_,rest,acc++[(m,c)],rfl,λb' o e=>?_,?_,?_,by rw[List.length_append,hacc];rfl,?_,hwr⟩
      ·have h1:=s4 _ _ e
       rw[za6 (za7 e hnl0),za6 (za7 h1 hqt)]
       exact h1
      ·rw[za6 nfn,za6 nfq]
       exact hfl4
      ·rw[List.map_append]
       exact zc0 hus ups hqt
      ·have:named ((m,c)::ds.drop (i+1)) rest=(m,c)::named (ds.drop (i+1)) rest:=by
        show (if c=0 then _ else _)=_
        rw[if_neg hc]
       rw[hnm,List.append_assoc,this]
       rfl
    ·rintro σ H' ⟨v3,v4,rest,acc,rfl,s4,hfl4,hus,hacc,hnm,hwr⟩
     rw[List.length_map,htl,List.drop_length] at hnm
     have:named [] rest=[]:=rfl
     rw[this,List.append_nil] at hnm
     exact⟨_,rfl,kQ H' nl s4 hnl0 (by rw[hnm];exact hus)⟩
def zdE:Stmt:=top 38
theorem zgE:FnScope ["town","point"] ["town"] (defScope zdE):=⟨rfl,rfl,rfl,by decide +kernel,rfl,by decide +kernel,by decide +kernel⟩
def ze2 (Ad:Adr):Sp:=λvs H Q E=>∃t L s n,vs=[.ref t]∧TownAt Ad.CP Ad.CT H t L s∧Good n s∧n≤401∧(Vbpoan.bestWorth s=none→∀H',Same H H'→E (.ref Ad.eN) none H')∧
 (∀w,Vbpoan.bestWorth s=some w→Vbpoan.plan s=none→∀H',Same H H'→E (.ref Ad.eM) none H')∧
 ∀w l,Vbpoan.bestWorth s=some w→Vbpoan.plan s=some l→PlanIs s w l→∀H' p,Same H H'→H p=none→RowsAt H' p (l.map pairV)→Q (.ref p) H'
theorem zkH (D:DefIn K mg "make_plan" zdE ["town"]) (T:Txt K mg Ad) (zcs:Callable P w K mg base 5 "with_new_codes" ["town","districts"] (zdm Ad))
  (zct:Callable P w K mg base 4 "best_districts" ["points","cap"] (zdn Ad.CP)):Callable P w K mg base 6 "make_plan" ["town"] (ze2 Ad):=by
 refine D.ok (k:=5) zgE (λvs H Q E h=>?_) (λf cdv A outer s H vs Q E hr h=>?_)
 ·obtain⟨t,L,s,n,rfl,_⟩:=h;rfl
 ·obtain⟨t,L,st,n,rfl,tw,G,hn,kN,kM,kQ⟩:=h
  obtain⟨dt,fs,et,F⟩:=tw.tw
  have hlp:=tw.pts.len
  refine⟨_,(za2 (zbB ownP rfl (zaE (zab (pv 0) rfl)) (zaj (i:=1) zgE.nd rfl (by first|exact Or.inl rfl|exact Or.inr rfl)) (za5 (ps_if (zaf op_gt (zab (pv 1) rfl) (zab (pv 0) rfl) (nomark _)) (za5 (zd8 rfl T.zhM T.zow)) zag)))
   (za5 (zac (pe_fn zcs (hr.mono (by decide)) rfl (passP λ_ _ _ z=>z) (za0 (pv 0) (za0 (pe_fn zct (hr.mono (by decide)) rfl passN (za0 (zab (pv 0) rfl) (za0 (zab (pv 0) rfl) za4))) za4)))))),?_⟩
  refine⟨_,rfl,t,Ad.CT,dt,fs,_,rfl,et,T.clCT,T.zap,F.points,L.pl,rfl,⟨_,SqL.of tw.pts.lst⟩,zb0 (K:=K) (a:=L.pl) (xs:=L.ps.map λx=>V.ref x.1)
   (λi σ H'=>∃v,σ=[some (.ref t),v]∧H'=H∧∀(j:Nat) (q:Point),j < i→st.points[j]?=some q→q.load≤st.cap) ⟨none,rfl,rfl,λj q hj=>by omega⟩ (λi σ H' _ ⟨_,_,e,_⟩=>by rw[e];exact SqL.of tw.pts.lst) ?_ ?_⟩
  ·rintro i y σ H' hi ⟨v,rfl,rfl,hall⟩
   obtain⟨x,hx,rfl⟩:=pt_at hi
   obtain⟨p,hp,dx,fp,e,FP⟩:=Paired.get1 tw.pts.pt hx
   refine⟨_,rfl,x.1,Ad.CP,dx,fp,_,rfl,e,T.clCP,T.zfw,FP.load,_,rfl,t,Ad.CT,dt,fs,_,rfl,et,T.clCT,T.t_cap,F.cap,_,_,rfl,rfl,_,rfl,ite2 (λhc=>?_) (λhc=>?_)⟩
   ·have hc:=of_decide_eq_true hc
    exact kN (zkr (l:=p.load) (List.mem_map.mpr ⟨p,List.mem_of_getElem? hp,rfl⟩) (by omega)) H' (Same.refl _)
   ·have hc:¬ (st.cap:Int) < (p.load:Int):=λz=>hc (decide_eq_true z)
    refine⟨_,rfl,rfl,λj q hj hq=>?_⟩
    by_cases ej:j=i
    ·subst ej
     rw[hp] at hq
     cases hq
     omega
    ·exact hall j q (by omega) hq
  ·rintro σ H' ⟨v,rfl,rfl,hall⟩
   rw[List.length_map,hlp] at hall
   have hcap:∀l∈loadsOf st,l≤st.cap:=λl hl=>by
    obtain⟨q,hq,rfl⟩:=List.mem_map.mp hl
    obtain⟨j,hj⟩:=List.getElem?_of_mem hq
    exact hall j q (List.getElem?_eq_some_iff.mp hj).1 hj
   refine⟨_,rfl,_,rfl,t,Ad.CT,dt,fs,_,rfl,et,T.clCT,T.zap,F.points,_,rfl,t,Ad.CT,dt,fs,_,rfl,et,T.clCT,T.t_cap,F.cap,L.pl,L.ps,st.points,st.cap,rfl,tw.pts,G.len,G.ctg,hcap,λH1 l s1 n1 hrows=>?_⟩
   have hrows:RowsAt H1 l ((walkS st).map pairV):=hrows
   have hwl:(walkS st).length≤1000:=by
    have h1:=zhi (codesOf st) ((loadsOf st).length+1) 0 false (tab st.cap (loadsOf st) (codesOf st) (loadsOf st).length 0)
    have h2:(loadsOf st).length=st.points.length:=List.length_map ..
    have h3:=G.len
    show (walk _ _ _ _ _).length≤_
    omega
   obtain⟨wo,hw,hcase⟩:=zkq G.ctg hcap
   refine⟨t,L,st,n,l,walkS st,rfl,tw.same s1,G,hn,hrows,hwl,λhlt H2 s2=>?_,λhle H2 p s2 n2 hr2=>?_⟩
   ·rcases hcase with ⟨h1,_⟩|⟨h1,h2⟩
    ·omega
    ·exact kM wo hw h2 H2 (Same.trans s1 s2)
   ·rcases hcase with ⟨h1,h2,h3⟩|⟨h1,h2⟩
    ·exact kQ wo _ hw h2 h3 H2 p (Same.trans s1 s2) (s1.free n2) hr2
    ·omega
end
end Pd
end
section
namespace Pd
open PySem PySem.Spec PyProof.Rows L2
open Vbpoan (State Point Old Retired codesOf loadsOf isFree pointOf inside spread nsum onPoint)
open VbpoanNeutral (flat)
def RefOf (Ad:Adr) (k:Nat) (C:Addr):Prop:=(k=1∧C=Ad.eR)∨(k=2∧C=Ad.eT)∨(k=4∧C=Ad.eP)∨(k=7∧C=Ad.eN)∨(k=8∧C=Ad.eM)
theorem ref1 {Ad:Adr}:RefOf Ad 1 Ad.eR:=.inl ⟨rfl,rfl⟩
theorem ref2 {Ad:Adr}:RefOf Ad 2 Ad.eT:=.inr (.inl ⟨rfl,rfl⟩)
theorem ref4 {Ad:Adr}:RefOf Ad 4 Ad.eP:=.inr (.inr (.inl ⟨rfl,rfl⟩))
theorem ref7 {Ad:Adr}:RefOf Ad 7 Ad.eN:=.inr (.inr (.inr (.inl ⟨rfl,rfl⟩)))
theorem ref8 {Ad:Adr}:RefOf Ad 8 Ad.eM:=.inr (.inr (.inr (.inr ⟨rfl,rfl⟩)))
def KEx (Ad:Adr) (H:Hp) (s:State) (c:Vbpoan.Call) (E:XK):Prop:=∀k C H',Vbpoan.step s c=Vbpoan.no s k→RefOf Ad k C→Same H H'→E (.ref C) none H'
def KQu (H:Hp) (s:State) (c:Vbpoan.Call) (Q:VK):Prop:=∀H' p,Same H H'→H' p=some (.lst (intL (flat (Vbpoan.step s c).2)))→Q (.ref p) H'
theorem zkz {s:State} {p:Int} {f:Point→State×Vbpoan.Ans} (h:inside p 1 1000000=false):onPoint s p f=Vbpoan.no s 1:=by unfold onPoint;rw[if_pos h]
theorem zhz {s:State} {p:Int} {f:Point→State×Vbpoan.Ans} (h:inside p 1 1000000=true) (h2:pointOf s p=none):onPoint s p f=Vbpoan.no s 4:=by
 unfold onPoint;rw[if_neg (by rw[h];exact λz=>nomatch z),h2]
theorem zhy {s:State} {p:Int} {f:Point→State×Vbpoan.Ans} {x:Point} (h:inside p 1 1000000=true) (h2:pointOf s p=some x):onPoint s p f=f x:=by
 unfold onPoint;rw[if_neg (by rw[h];exact λz=>nomatch z),h2]
theorem zbN (a b:List Int):intL (a++b)=intL a++intL b:=List.map_append ..
theorem znY (l:List Nat):natL l=intL (Vbpoan.ints l):=zhK l
section
variable {P:Program} {w:World} {K:PySem.W.Frag} {mg:Str→Option Value} {base:Heap} {Ad:Adr}
def zdB:Stmt:=top 72
theorem zgC:FnScope ["town","number","point"] ["town","number"] (defScope zdB):=⟨rfl,rfl,rfl,by decide +kernel,rfl,by decide +kernel,by decide +kernel⟩
def zgw (Ad:Adr):Sp:=λvs H Q E=>∃t L s,∃m:Int,vs=[.ref t,.int m]∧TownAt Ad.CP Ad.CT H t L s∧KEx Ad H s (.code m) E∧KQu H s (.code m) Q
theorem zkE (D:DefIn K mg "tell_code" zdB ["town","number"]) (T:Txt K mg Ad) (zar:Callable P w K mg base 2 "find_point" ["town","number"] (zbl Ad)) (zak:Callable P w K mg base 1 "as_row" ["numbers"] zbc) :
  Callable P w K mg base 3 "tell_code" ["town","number"] (zgw Ad):=by
 refine D.ok (k:=2) zgC (λvs H Q E h=>?_) (λf cdv A outer s H vs Q E hr h=>?_)
 ·obtain⟨t,L,s,m,rfl,_⟩:=h;rfl
 ·obtain⟨t,L,st,m,rfl,tw,kE,kQ⟩:=h
  refine⟨_,(za2 (zah (i:=2) zgC.nd rfl (by first|exact Or.inl rfl|exact Or.inr rfl) (pe_fn zar (hr.mono (by decide)) rfl (passP λ_ _ _ z=>z) (za0 (pv 0) (za0 (pv 1) za4))))
   (za5 (zac (pe_op zcQ (zas (za0 (zab (pv 2) rfl) za4)) (pe_fn zak (hr.mono (by decide)) rfl passN (za0 (zas (za0 (zab (pv 2) rfl) (za0 (zab (pv 2) rfl) za4))) za4)))))),?_⟩
  refine⟨_,rfl,_,rfl,t,L,st,m,rfl,tw,λh=>kE 1 _ H (zkz h) ref1 (Same.refl _),λh h2=>kE 4 _ H (zhz h h2) ref4 (Same.refl _),λj x p hin hx hp hpo hid=>?_⟩
  obtain⟨p',hp',dx,fs,e,F⟩:=Paired.get1 tw.pts.pt hx
  rw[hp] at hp'
  cases hp'
  have es:Vbpoan.step st (.code m)=Vbpoan.yes st p.code [Vbpoan.ints [p.since,p.load]]:=zhy hin hpo
  unfold KQu at kQ
  rw[es] at kQ
  refine⟨_,rfl,x.1,Ad.CP,dx,fs,_,rfl,e,T.clCP,T.zb2,F.code,(by show 1≤sizeLine;decide),λa ha=>?_⟩
  have s1:Same H (upd H a (.lst [nat p.code])):=za8 ha
  refine⟨_,rfl,x.1,Ad.CP,dx,fs,_,rfl,s1 _ _ e,T.clCP,T.zhx,F.since,_,rfl,x.1,Ad.CP,dx,fs,_,rfl,s1 _ _ e,T.clCP,T.zfw,F.load,(by show 2≤sizeLine;decide),λb hb=>?_⟩
  have s2:Same (upd H a (.lst [nat p.code])) _:=za8 (o:=.lst [nat p.since,nat p.load]) hb
  refine⟨b,_,rfl,za1,by show 2 < 100000;decide,λH3 c s3 n3 hc=>?_⟩
  refine⟨a,c,_,_,rfl,rfl,s3 _ _ (s2 _ _ za1),hc,by show 1+3≤sizeLine;decide,λq hq=>?_⟩
  refine kQ _ q (Same.trans (Same.trans s1 s2) (Same.trans s3 (za8 hq))) ?_
  rw[za1]
  rfl
def zfs:Stmt:=top 62
theorem zdp:FnScope ["code","first","second","third","letter"] ["code"] (defScope zfs):=⟨rfl,rfl,rfl,by decide +kernel,rfl,by decide +kernel,by decide +kernel⟩
def zfS:Sp:=λvs H Q _=>∃c:Int,vs=[.int c]∧∀H' p,Same H H'→H p=none→H' p=some (.lst (intL (textI c)))→Q (.ref p) H'
theorem zmQ (D:DefIn K mg "text_of" zfs ["code"]) (T:Txt K mg Ad):Callable P w K mg base 1 "text_of" ["code"] zfS:=by
 refine D.ok (k:=0) zdp (λvs H Q E h=>?_) (λf cdv A outer s H vs Q E hr h=>?_)
 ·obtain⟨c,rfl,_⟩:=h;rfl
 ·obtain⟨c,rfl,k⟩:=h
  refine⟨_,(za2 (zah (i:=1) zdp.nd rfl (by first|exact Or.inl rfl|exact Or.inr rfl) (pe_op znR (pv 0) zae))
   (za2 (zah (i:=2) zdp.nd rfl (by first|exact Or.inl rfl|exact Or.inr rfl) (pe_op znQ (pe_op znR (pv 0) zae) zae))
   (za2 (zah (i:=3) zdp.nd rfl (by first|exact Or.inl rfl|exact Or.inr rfl) (pe_op znQ (pv 0) zae))
   (za2 (zah (i:=4) zdp.nd rfl (by first|exact Or.inl rfl|exact Or.inr rfl) (pe_op znQ (pe_op zcm (pe_op zcm (pv 1) (pe_op znP zae (pv 2))) (pe_op znP zae (pv 3))) zae))
   (za5 (zac (zas (za0 (pe_op zcm (zaq rfl T.zcq) (pv 1)) (za0 (pe_op zcm (zaq rfl T.zcq) (pv 2)) (za0 (pe_op zcm (zaq rfl T.zcq) (pv 3)) (za0 (pe_op zcm (zaq rfl T.znl) (pv 4)) za4))))))))))),?_⟩
  refine⟨_,rfl,_,_,rfl,rfl,⟨by decide,by decide⟩,?_⟩
  refine⟨_,rfl,_,_,rfl,rfl,⟨by decide,by decide⟩,_,_,rfl,rfl,(by show (0:Int) < 10;decide),?_⟩
  refine⟨_,rfl,_,_,rfl,rfl,(by show (0:Int) < 10;decide),?_⟩
  refine⟨_,rfl,_,rfl,_,_,rfl,rfl,.inl ⟨by decide,by decide⟩,_,_,rfl,rfl,_,rfl,_,_,rfl,rfl,.inl ⟨by decide,by decide⟩,_,_,rfl,rfl,_,_,rfl,rfl,(by show (0:Int) < 11;decide),?_⟩
  refine⟨_,rfl,_,_,rfl,rfl,_,rfl,_,_,rfl,rfl,_,rfl,_,_,rfl,rfl,_,rfl,_,_,rfl,rfl,(by show 4≤sizeLine;decide),λq hq=>?_⟩
  exact k _ q (za8 hq) hq za1
def zdy:Stmt:=top 76
theorem zkl:FnScope ["code"] ["code"] (defScope zdy):=⟨rfl,rfl,rfl,by decide +kernel,rfl,by decide +kernel,by decide +kernel⟩
def zgt (Ad:Adr):Sp:=λvs H Q E=>∃s,∃c:Int,vs=[.int c]∧KEx Ad H s (.text c) E∧KQu H s (.text c) Q
theorem zkB (D:DefIn K mg "tell_text" zdy ["code"]) (T:Txt K mg Ad) (za9:Callable P w K mg base 1 "check_range" ["number","least","greatest"] (zay Ad)) (zak:Callable P w K mg base 1 "as_row" ["numbers"] zbc)
  (zds:Callable P w K mg base 1 "text_of" ["code"] zfS):Callable P w K mg base 2 "tell_text" ["code"] (zgt Ad):=by
 refine D.ok (k:=1) zkl (λvs H Q E h=>?_) (λf cdv A outer s H vs Q E hr h=>?_)
 ·obtain⟨s,c,rfl,_⟩:=h;rfl
 ·obtain⟨st,c,rfl,kE,kQ⟩:=h
  refine⟨_,(za2 (zaA (pe_fn za9 (hr.mono (by decide)) rfl (passP λ_ _ _ z=>z) (za0 (pv 0) (za0 (zaq rfl T.zcp) (za0 (zaq rfl T.zc3) za4)))))
   (za5 (zac (pe_op zcQ (zas (za0 zae za4)) (pe_fn zak (hr.mono (by decide)) rfl passN (za0 (pe_fn zds (hr.mono (by decide)) rfl passN (za0 (pv 0) za4)) za4)))))),?_⟩
  have es:Vbpoan.step st (.text c)=if Vbpoan.isCode c=false then Vbpoan.no st 1 else Vbpoan.yes st 0 [Vbpoan.bytes (Vbpoan.textOf c.toNat)]:=rfl
  refine⟨_,rfl,c,100,999,rfl,λh=>kE 1 _ H (es.trans (if_pos h)) ref1 (Same.refl _),λh=>?_⟩
  have hc:=zaD.mp h
  unfold KQu at kQ
  rw[es,if_neg (by show ¬ inside c 100 999=false;rw[h];exact λz=>nomatch z),zp7 hc.1 hc.2] at kQ
  refine⟨(by show 1≤sizeLine;decide),λa ha=>?_⟩
  have s1:Same H (upd H a (.lst [.int 0])):=za8 ha
  refine⟨_,rfl,c,rfl,λH2 b s2 n2 hb=>?_⟩
  refine⟨b,_,rfl,hb,by show 4 < 100000;decide,λH3 d s3 n3 hd=>?_⟩
  refine⟨a,d,_,_,rfl,rfl,s3 _ _ (s2 _ _ za1),hd,by show 1+5≤sizeLine;decide,λq hq=>?_⟩
  refine kQ _ q (Same.trans (Same.trans s1 s2) (Same.trans s3 (za8 hq))) ?_
  rw[za1]
  rfl
def zcd:Stmt:=top 79
theorem zhs:FnScope ["town"] ["town"] (defScope zcd):=⟨rfl,rfl,rfl,by decide +kernel,rfl,by decide +kernel,by decide +kernel⟩
def zdY (Ad:Adr):Sp:=λvs H Q _=>∃t L s,vs=[.ref t]∧TownAt Ad.CP Ad.CT H t L s∧s.retired.length≤20000∧KQu H s .retired Q
theorem zju:∀l:List Retired,(l.map retV).flatten=intL (l.flatMap λr=>Vbpoan.ints [r.code,r.day])
 | []=>rfl
 | r::l=>by
  rw[List.map_cons,List.flatten_cons,zju l,List.flatMap_cons,zbN]
  rfl
theorem zhA (D:DefIn K mg "tell_retired" zcd ["town"]) (T:Txt K mg Ad) (zaZ:Callable P w K mg base 2 "as_one_row" ["groups"] zcy):Callable P w K mg base 3 "tell_retired" ["town"] (zdY Ad):=by
 refine D.ok (k:=2) zhs (λvs H Q E h=>?_) (λf cdv A outer s H vs Q E hr h=>?_)
 ·obtain⟨t,L,s,rfl,_⟩:=h;rfl
 ·obtain⟨t,L,st,rfl,tw,hlen,kQ⟩:=h
  have line:sizeLine=16777216:=sizeLine_eq
  obtain⟨dt,fs,et,F⟩:=tw.tw
  obtain⟨ts,hts,tps⟩:=tw.ret
  have htl:ts.length=(st.retired.map retV).length:=Paired.length tps
  rw[List.length_map] at htl
  have hfl:(st.retired.map retV).flatten.length=2 * st.retired.length:=by
   rw[zju,List.length_map,zb7 st.retired _ 2 λx=>rfl]
  refine⟨_,(za5 (zac (pe_op zcQ (zas (za0 (zai zaa rfl T.b_len PySem.boot_len (za0 (zab (pv 0) rfl) za4)) za4)) (pe_fn zaZ (hr.mono (by decide)) rfl passN (za0 (zab (pv 0) rfl) za4))))),?_⟩
  refine⟨_,rfl,t,Ad.CT,dt,fs,_,rfl,et,T.clCT,T.zdl,F.retired,L.rl,_,rfl,.inl (SqL.of hts),(by show 1≤sizeLine;decide),λa ha=>?_⟩
  have s1:∀o:HO,Same H (upd H a o):=λo=>za8 ha
  refine⟨_,rfl,t,Ad.CT,dt,fs,_,rfl,s1 _ _ _ et,T.clCT,T.zdl,F.retired,L.rl,_,rfl,tw.ret.same (s1 _),by omega,λH2 b s2 n2 hb=>?_⟩
  refine⟨a,b,_,_,rfl,rfl,s2 _ _ za1,hb,by show 1+(_+1)≤sizeLine;omega,λq hq=>?_⟩
  refine kQ _ q (Same.trans (Same.trans (s1 _) s2) (za8 hq)) ?_
  rw[za1,List.length_map,htl,zju,List.length_map]
  show some (HO.lst _)=some (HO.lst (intL ((st.retired.length:Int)::([st.retired.flatMap λr=>Vbpoan.ints [r.code,r.day]].flatMap λr=>(r.length:Int)::r))))
  rw[List.flatMap_cons,List.flatMap_nil,List.append_nil]
  rfl
def zdA:Stmt:=top 81
theorem zgB:FnScope ["town","wanted","free"] ["town","wanted"] (defScope zdA):=⟨rfl,rfl,rfl,by decide +kernel,rfl,by decide +kernel,by decide +kernel⟩
def zgv (Ad:Adr):Sp:=λvs H Q E=>∃t L s n,∃m:Int,vs=[.ref t,.int m]∧TownAt Ad.CP Ad.CT H t L s∧Good n s∧n≤401∧KEx Ad H s (.free m) E∧KQu H s (.free m) Q
theorem zkD (D:DefIn K mg "tell_free" zdA ["town","wanted"]) (T:Txt K mg Ad) (za9:Callable P w K mg base 1 "check_range" ["number","least","greatest"] (zay Ad)) (zak:Callable P w K mg base 1 "as_row" ["numbers"] zbc)
  (zaH:Callable P w K mg base 4 "least_free_codes" ["town","wanted"] (zbK Ad.CP Ad.CT)):Callable P w K mg base 5 "tell_free" ["town","wanted"] (zgv Ad):=by
 refine D.ok (k:=4) zgB (λvs H Q E h=>?_) (λf cdv A outer s H vs Q E hr h=>?_)
 ·obtain⟨t,L,s,n,m,rfl,_⟩:=h;rfl
 ·obtain⟨t,L,st,n,m,rfl,tw,G,hn,kE,kQ⟩:=h
  have line:sizeLine=16777216:=sizeLine_eq
  refine⟨_,(za2 (zaA (pe_fn za9 (hr.mono (by decide)) rfl (passP λ_ _ _ z=>z) (za0 (pv 1) (za0 zae (za0 (zaq rfl T.zh5) za4)))))
   (za2 (zah (i:=2) zgB.nd rfl (by first|exact Or.inl rfl|exact Or.inr rfl) (pe_fn zaH (hr.mono (by decide)) rfl passN (za0 (pv 0) (za0 (pv 1) za4))))
   (za5 (zac (pe_op zcQ (zas (za0 (zai zaa rfl T.b_len PySem.boot_len (za0 (pv 2) za4)) za4)) (pe_fn zak (hr.mono (by decide)) rfl passN (za0 (pv 2) za4))))))),?_⟩
  have es:Vbpoan.step st (.free m)=if inside m 1 50=false then Vbpoan.no st 1 else Vbpoan.yes st ((freeL st).take m.toNat).length [Vbpoan.ints ((freeL st).take m.toNat)]:=rfl
  refine⟨_,rfl,m,1,50,rfl,λh=>kE 1 _ H (es.trans (if_pos h)) ref1 (Same.refl _),λh=>?_⟩
  have hm:=zaD.mp h
  unfold KQu at kQ
  rw[es,if_neg (by rw[h];exact λz=>nomatch z)] at kQ
  obtain⟨k,rfl⟩:∃k:Nat,m=(k:Int):=⟨m.toNat,by omega⟩
  rw[Int.toNat_natCast] at kQ
  refine⟨_,rfl,_,rfl,t,L,st,n,k,rfl,tw,G,hn,λH1 fl s1 n1 hfl=>?_⟩
  have hl50:((freeL st).take k).length≤50:=by rw[List.length_take];omega
  refine⟨_,rfl,fl,_,rfl,.inl (SqL.of hfl),(by show 1≤sizeLine;decide),λa ha=>?_⟩
  have s2:∀o:HO,Same H1 (upd H1 a o):=λo=>za8 ha
  refine⟨_,rfl,fl,_,rfl,s2 _ _ _ hfl,by rw[List.length_map];omega,λH3 b s3 n3 hb=>?_⟩
  refine⟨a,b,_,_,rfl,rfl,s3 _ _ za1,hb,by show 1+((natL ((freeL st).take k)).length+1)≤sizeLine;rw[List.length_map];omega,λq hq=>?_⟩
  refine kQ _ q (Same.trans (Same.trans s1 (s2 _)) (Same.trans s3 (za8 hq))) ?_
  rw[za1,List.length_map]
  show some (HO.lst _)=some (HO.lst (intL ((((freeL st).take k).length:Int)::([Vbpoan.ints ((freeL st).take k)].flatMap λr=>(r.length:Int)::r))))
  rw[List.flatMap_cons,List.flatMap_nil,List.append_nil,ints_length,znY]
  rfl
def zcz:Stmt:=top 82
theorem zeD:FnScope ["town","districts"] ["town"] (defScope zcz):=⟨rfl,rfl,rfl,by decide +kernel,rfl,by decide +kernel,by decide +kernel⟩
def zez (Ad:Adr):Sp:=λvs H Q _=>∃t L s n,vs=[.ref t]∧TownAt Ad.CP Ad.CT H t L s∧Good n s∧KQu H s .counts Q
theorem zix (D:DefIn K mg "tell_counts" zcz ["town"]) (T:Txt K mg Ad) (zav:Callable P w K mg base 1 "codes_of" ["points"] (zbM Ad.CP)) (zak:Callable P w K mg base 1 "as_row" ["numbers"] zbc) :
  Callable P w K mg base 2 "tell_counts" ["town"] (zez Ad):=by
 refine D.ok (k:=1) zeD (λvs H Q E h=>?_) (λf cdv A outer s H vs Q E hr h=>?_)
 ·obtain⟨t,L,s,n,rfl,_⟩:=h;rfl
 ·obtain⟨t,L,st,n,rfl,tw,G,kQ⟩:=h
  obtain⟨dt,fs,et,F⟩:=tw.tw
  obtain⟨ts,hts,tps⟩:=tw.ret
  have htl:ts.length=(st.retired.map retV).length:=Paired.length tps
  rw[List.length_map] at htl
  have hlp:=tw.pts.len
  refine⟨_,(za2 (zah (i:=1) zeD.nd rfl (by first|exact Or.inl rfl|exact Or.inr rfl) (zai zaa rfl T.b_len PySem.boot_len (za0 (pe_fn zav (hr.mono (by decide)) rfl passN (za0 (zab (pv 0) rfl) za4)) za4)))
   (za5 (zac (pe_op zcQ (zas (za0 (zab (pv 0) rfl) za4)) (pe_fn zak (hr.mono (by decide)) rfl passN (za0 (zas (za0 (zab (pv 0) rfl) (za0 (zab (pv 0) rfl) (za0 (zai zaa rfl T.b_len PySem.boot_len (za0 (zab (pv 0) rfl) za4)) (za0 (pv 1) (za0 (zai zaa rfl T.b_len PySem.boot_len (za0 (zab (pv 0) rfl) za4)) (za0 (pe_op zcm (zab (pv 0) rfl) zae) za4))))))) za4)))))),?_⟩
  refine⟨_,rfl,t,Ad.CT,dt,fs,_,rfl,et,T.clCT,T.zap,F.points,L.pl,L.ps,st.points,rfl,tw.pts,G.len,λH1 l s1 n1 hl=>?_⟩
  refine⟨l,_,rfl,.inl (SqL.of hl),?_⟩
  refine⟨_,rfl,t,Ad.CT,dt,fs,_,rfl,s1 _ _ et,T.clCT,T.t_day,F.day,(by show 1≤sizeLine;decide),λa ha=>?_⟩
  have s2:∀o:HO,Same H (upd H1 a o):=λo=>Same.trans s1 (za8 ha)
  refine⟨_,rfl,t,Ad.CT,dt,fs,_,rfl,s2 _ _ _ et,T.clCT,T.zln,F.grace,_,rfl,t,Ad.CT,dt,fs,_,rfl,s2 _ _ _ et,T.clCT,T.t_cap,F.cap,
   _,rfl,t,Ad.CT,dt,fs,_,rfl,s2 _ _ _ et,T.clCT,T.zap,F.points,L.pl,_,rfl,.inl (SqL.of (s2 _ _ _ tw.pts.lst)),_,rfl,_,rfl,t,Ad.CT,dt,fs,_,rfl,s2 _ _ _ et,T.clCT,T.zdl,F.retired,L.rl,_,rfl,.inl (SqL.of (s2 _ _ _ hts)),
   _,rfl,t,Ad.CT,dt,fs,_,rfl,s2 _ _ _ et,T.clCT,T.zfR,F.given,_,_,rfl,rfl,(by show 6≤sizeLine;decide),λb hb=>?_⟩
  refine⟨b,_,rfl,za1,by show 6 < 100000;decide,λH3 c s3 n3 hc=>?_⟩
  have nab:a≠b:=λz=>by rw[←z,za1] at hb;cases hb
  refine⟨a,c,_,_,rfl,rfl,s3 _ _ (by rw[za6 nab,za1]),hc,by show 1+7≤sizeLine;decide,λq hq=>?_⟩
  refine kQ _ q (Same.trans (Same.trans (s2 _) (za8 hb)) (Same.trans s3 (za8 hq))) ?_
  rw[za1]
  have e1:(natL (codesD (st.points.map (·.code)))).length=(Vbpoan.olds 0 (codesOf st)).length:=by
   rw[List.length_map];exact(zlw G.ctg).symm
  have e2:(L.ps.map λx=>V.ref x.1).length=st.points.length:=by rw[List.length_map,hlp]
  have e3:(ts.map V.ref).length=st.retired.length:=by rw[List.length_map,htl]
  have e4:((st.next:Int) - 1)+1=(st.next:Int):=by omega
  rw[e1,e2,e3]
  show some (HO.lst ([nat st.day]++[.int 6,nat st.grace,nat st.cap,nat st.points.length,nat (Vbpoan.olds 0 (codesOf st)).length,nat st.retired.length,.int (((st.next:Int) - 1)+1)]))=_
  rw[e4]
  rfl
end
end Pd
end
section
namespace Pd
open PySem PySem.Spec PyProof.Rows L2
open Vbpoan (State Point Old Retired codesOf loadsOf isFree pointOf inside spread nsum onPoint)
open VbpoanNeutral (flat)
theorem zpQ (xs:List V):cutV xs none (some (-1))=xs.take (xs.length - 1):=by
 unfold cutV
 rw[HT.zmh,List.drop_zero,Nat.sub_zero]
 have:HT.sIx xs.length xs.length (some (-1))=xs.length - 1:=by
  show (if (-1:Int) < 0 then ((-1:Int)+(xs.length:Int)).toNat else min (-1:Int).toNat xs.length)=_
  rw[if_pos (by decide)]
  omega
 rw[this]
theorem int_at {l:List Int} {i:Nat} {x:V} (h:(intL l)[i]?=some x):∃n,l[i]?=some n∧x=.int n:=by
 rw[List.getElem?_map] at h
 cases e:l[i]? with
 | none=>rw[e] at h;cases h
 | some t=>rw[e] at h;exact⟨t,rfl,(Option.some.inj h).symm⟩
theorem zge {K:PySem.W.Frag} {H:Hp}:∀l:List Int,DpAll K H (intL l) (l.map PyData.int)
 | []=>.nil
 | a::l=>.cons (.int a) (zge l)
theorem shaped4 {l:List Int} (h:l.length=4):SeqAt.shaped (.list (l.map PyData.int))=true:=by
 obtain⟨a,b,c,d,rfl⟩:=four h
 rfl
theorem zmS (l:List Int) (d:Int):numOf (l++[d])=10 * numOf l+d - 48:=by
 unfold numOf;rw[List.foldl_append];rfl
section
variable {P:Program} {w:World} {K:PySem.W.Frag} {mg:Str→Option Value} {base:Heap} {Ad:Adr}
def zbG:Stmt:=top 63
theorem zbn:FnScope ["text","number","sign"] ["text"] (defScope zbG):=⟨rfl,rfl,rfl,by decide +kernel,rfl,by decide +kernel,by decide +kernel⟩
def zc7:Sp:=λvs H Q _=>∃l b,vs=[.ref l]∧H l=some (.lst (intL (Vbpoan.bytes b)))∧∀H',Same H H'→Q (.int (codeI b)) H'
theorem zg0 (D:DefIn K mg "code_read_from" zbG ["text"]) (T:Txt K mg Ad) (zds:Callable P w K mg base 1 "text_of" ["code"] zfS):Callable P w K mg base 2 "code_read_from" ["text"] zc7:=by
 refine D.ok (k:=1) zbn (λvs H Q E h=>?_) (λf cdv A outer s H vs Q E hr h=>?_)
 ·obtain⟨l,b,rfl,_⟩:=h;rfl
 ·obtain⟨l,b,rfl,hl,k⟩:=h
  refine⟨_,(za2 (ps_if (zaf op_ne (zai zaa rfl T.b_len PySem.boot_len (za0 (pv 0) za4)) (zaq rfl T.zk0) (nomark _)) (za5 (zac (zaq rfl T.zc2))) zag)
   (za2 (zah (i:=1) zbn.nd rfl (by first|exact Or.inl rfl|exact Or.inr rfl) zae)
   (za2 (zbB ownP rfl (zaE (zhe zjo (pv 0) znI (zfV (pe_un zey zae)))) (zaj (i:=2) zbn.nd rfl (by first|exact Or.inl rfl|exact Or.inr rfl)) (za2 (ps_if (PW.pt (pw_or (zaf op_lt (pv 2) (zaq rfl T.zcq) (nomark _)) (zhv (zaf op_gt (pv 2) (zaq rfl T.zl5) (nomark _))))) (za5 (zac (zaq rfl T.zc2))) zag)
   (za5 (zah (i:=1) zbn.nd rfl (by first|exact Or.inl rfl|exact Or.inr rfl) (pe_op zgK (pe_op zcm (pe_op znP zae (pv 1)) (pv 2)) (zaq rfl T.zcq))))))
   (za2 (ps_if (PW.pt (pw_or (zaf op_lt (pv 1) (zaq rfl T.zcp) (nomark _)) (zhv (zaf (zr3 hr.units) (pv 0) (pe_fn zds (hr.mono (by decide)) rfl passN (za0 (pv 1) za4)) (nomark _))))) (za5 (zac (zaq rfl T.zc2))) zag)
   (za5 (zac (pv 1))))))),?_⟩
  refine⟨_,rfl,l,_,rfl,.inl (SqL.of hl),rfl,_,rfl,?_⟩
  rw[List.length_map,zgQ]
  refine ite2 (λhc=>?_) (λhc=>?_)
  ·have hc:=zkL (b:=4) hc
   rw[zoJ hc] at k
   exact k H (Same.refl _)
  ·have hc:=zkM (b:=4) hc
   have h4:(Vbpoan.bytes b).length=4:=by rw[zgQ];exact hc
   refine⟨_,rfl,_,rfl,_,rfl,l,_,rfl,SqL.of hl,λq hq=>?_⟩
   have ecut:cutV (intL (Vbpoan.bytes b)) none (some (-1))=intL ((Vbpoan.bytes b).take 3):=by
    rw[zpQ,List.length_map,h4]
    show ((Vbpoan.bytes b).map V.int).take 3=((Vbpoan.bytes b).take 3).map V.int
    rw[List.map_take]
   have s1:∀o:HO,Same H (upd H q o):=λo=>za8 hq
   show ∃a,_∧_∧_
   have eu:upd H q (.lst (cutV (intL (Vbpoan.bytes b)) none (some (-1))))=upd H q (.lst (intL ((Vbpoan.bytes b).take 3))):=by rw[ecut]
   refine⟨q,rfl,⟨_,SqL.of za1⟩,zb0 (K:=K) (a:=q) (xs:=intL ((Vbpoan.bytes b).take 3))
    (λi σ H'=>∃v,σ=[some (.ref l),some (.int (numOf (((Vbpoan.bytes b).take 3).take i))),v]∧H'=upd H q (.lst (intL ((Vbpoan.bytes b).take 3)))∧∀(j:Nat) (d:Int),j < i→((Vbpoan.bytes b).take 3)[j]?=some d→48≤d∧d≤57)
    ⟨none,rfl,eu,λj d hj=>by omega⟩ (λi σ H' _ ⟨_,_,e,_⟩=>by rw[e];exact SqL.of za1) ?_ ?_⟩
   ·rintro i y σ H' hi ⟨v,rfl,rfl,hall⟩
    obtain⟨d,hd,rfl⟩:=int_at hi
    have hd3:(Vbpoan.bytes b)[i]?=some d∧i < 3:=by
     have hlt:i < ((Vbpoan.bytes b).take 3).length:=(List.getElem?_eq_some_iff.mp hd).1
     rw[List.length_take] at hlt
     have hi3:i < 3:=by omega
     rw[List.getElem?_take_of_lt hi3] at hd
     exact⟨hd,hi3⟩
    have bad:(d < 48∨57 < d)→Q (.int 0) (upd H q (.lst (intL ((Vbpoan.bytes b).take 3)))):=λz=>by
     have k:=k _ (s1 (.lst (intL ((Vbpoan.bytes b).take 3))))
     rw[zpe hc hd3.2 hd3.1 z] at k
     exact k
    refine⟨_,rfl,_,_,rfl,rfl,_,rfl,ite2 (λh1=>?_) (λh1=>?_)⟩
    ·exact iteT (bad (.inl (of_decide_eq_true h1)))
    ·have h1:¬ d < 48:=λz=>h1 (decide_eq_true z)
     refine⟨_,rfl,_,_,rfl,rfl,_,rfl,ite2 (λh2=>?_) (λh2=>?_)⟩
     ·exact bad (.inr (of_decide_eq_true h2))
     ·have h2:¬ 57 < d:=λz=>h2 (decide_eq_true z)
      refine⟨_,rfl,_,_,rfl,rfl,.inl ⟨by decide,by decide⟩,_,rfl,_,_,rfl,rfl,_,_,rfl,rfl,some (.int d),?_,rfl,λj d' hj hd'=>?_⟩
      ·rw[zau hd,zmS]
       rfl
      ·by_cases ej:j=i
       ·subst ej
        rw[hd] at hd'
        cases hd'
        omega
       ·exact hall j d' (by omega) hd'
   ·rintro σ H' ⟨v,rfl,rfl,hall⟩
    have el:(intL ((Vbpoan.bytes b).take 3)).length=((Vbpoan.bytes b).take 3).length:=List.length_map ..
    rw[el] at hall ⊢
    rw[List.take_length]
    obtain⟨g1,g2,g3⟩:=znE hc (λd hd=>by
     obtain⟨j,hj⟩:=List.getElem?_of_mem hd
     exact hall j d (List.getElem?_eq_some_iff.mp hj).1 hj)
    rw[g3] at k
    generalize hN:numOf ((Vbpoan.bytes b).take 3)=N at g1 g2 g3 k
    refine⟨_,rfl,_,_,rfl,rfl,_,rfl,ite2 (λh1=>?_) (λh1=>?_)⟩
    ·have h1:N < 100:=of_decide_eq_true h1
     rw[if_pos (.inl h1)] at k
     exact iteT (k _ (s1 _))
    ·have h1:¬ N < 100:=λz=>h1 (decide_eq_true z)
     refine⟨_,rfl,_,rfl,N,rfl,λH2 tl s2 n2 htl=>?_⟩
     refine⟨_,_,.lst (SqL.of (s2 _ _ (s1 _ _ _ hl))) (zge _),.lst (SqL.of htl) (zge _),shaped4 h4,shaped4 rfl,_,rfl,?_⟩
     have ee:(!PyData.eqv (.list ((Vbpoan.bytes b).map PyData.int)) (.list ((textI N).map PyData.int)))=decide (Vbpoan.bytes b≠textI N):=by
      show (!PyData.eqvAll _ _)=_
      rw[PySem.W.ked_eqvAll,Bool.eq_iff_iff]
      simp
     rw[ee]
     refine ite2 (λh2=>?_) (λh2=>?_)
     ·rw[if_pos (.inr (of_decide_eq_true h2))] at k
      exact k _ (Same.trans (s1 _) s2)
     ·have h2:¬ Vbpoan.bytes b≠textI N:=λz=>h2 (decide_eq_true z)
      rw[if_neg (λz=>z.elim h1 h2)] at k
      exact⟨_,rfl,k _ (Same.trans (s1 _) s2)⟩
def zd2:Stmt:=top 77
theorem zjq:FnScope ["text"] ["text"] (defScope zd2):=⟨rfl,rfl,rfl,by decide +kernel,rfl,by decide +kernel,by decide +kernel⟩
def zfg:Sp:=λvs H Q _=>∃s l b,vs=[.ref l]∧H l=some (.lst (intL (Vbpoan.bytes b)))∧KQu H s (.check b) Q
theorem zoK (s:State) (b:Vbpoan.Bytes):(Vbpoan.step s (.check b)).2=⟨codeI b,[]⟩:=by
 show (match Vbpoan.readCode b with|none=>Vbpoan.yes s 0 []|some n=>Vbpoan.yes s n []:State×Vbpoan.Ans).2=_
 cases e:Vbpoan.readCode b with
 | none=>rw[zjf e];rfl
 | some n=>rw[(zgm e).1];rfl
theorem zjE (D:DefIn K mg "check_text" zd2 ["text"]) (T:Txt K mg Ad) (zaU:Callable P w K mg base 2 "code_read_from" ["text"] zc7):Callable P w K mg base 3 "check_text" ["text"] zfg:=by
 refine D.ok (k:=2) zjq (λvs H Q E h=>?_) (λf cdv A outer s H vs Q E hr h=>?_)
 ·obtain⟨s,l,b,rfl,_⟩:=h;rfl
 ·obtain⟨st,l,b,rfl,hl,kQ⟩:=h
  refine⟨_,(za5 (zac (zas (za0 (pe_fn zaU (hr.mono (by decide)) rfl passN (za0 (pv 0) za4)) za4)))),?_⟩
  unfold KQu at kQ
  rw[zoK] at kQ
  refine⟨_,rfl,l,b,rfl,hl,λH1 s1=>⟨(by show 1≤sizeLine;decide),λq hq=>?_⟩⟩
  exact kQ _ q (Same.trans s1 (za8 hq)) za1
def zeh:Stmt:=top 74
theorem zlq:FnScope ["town","point","code"] ["town","point","code"] (defScope zeh):=⟨rfl,rfl,rfl,by decide +kernel,rfl,by decide +kernel,by decide +kernel⟩
def zhq (CP CT:Addr):Sp:=λvs H Q _=>∃t pl rl s a h p,∃c:Nat,vs=[.ref t,.ref a,nat c]∧TwAt CT H t pl rl s∧PtAt CP H a h p∧RowsAt H h (p.olds.map oldV)∧p.olds.length≤1000∧
 ∀H',Same H H'→Q (nat (Vbpoan.readAs s p c)) H'
theorem zlA (D:DefIn K mg "how_read" zeh ["town","point","code"]) (T:Txt K mg Ad) (zaI:Callable P w K mg base 2 "codes_still_read" ["town","point"] (zbL Ad.CP Ad.CT)) :
  Callable P w K mg base 3 "how_read" ["town","point","code"] (zhq Ad.CP Ad.CT):=by
 refine D.ok (k:=2) zlq (λvs H Q E h=>?_) (λf cdv A outer s H vs Q E hr h=>?_)
 ·obtain⟨t,pl,rl,s,a,h,p,c,rfl,_⟩:=h;rfl
 ·obtain⟨t,pl,rl,st,a,hh,p,c,rfl,tw,pa,hrw,hlen,k⟩:=h
  obtain⟨dx,fs,e,F⟩:=id pa
  refine⟨_,(za2 (ps_if (zaf op_eq (pv 2) (zab (pv 1) rfl) (nomark _)) (za5 (zac (zaq rfl T.zk1))) zag)
   (za2 (ps_if (zaf zky (pv 2) (pe_fn zaI (hr.mono (by decide)) rfl passN (za0 (pv 0) (za0 (pv 1) za4))) (by with_unfolding_all rfl)) (za5 (zac (zaq rfl T.zes))) zag)
   (za5 (zac (zaq rfl T.znk))))),?_⟩
  rw[znF] at k
  refine⟨_,rfl,_,rfl,a,Ad.CP,dx,fs,_,rfl,e,T.clCP,T.zb2,F.code,rfl,_,rfl,ite2 (λh1=>?_) (λh1=>?_)⟩
  ·rw[if_pos (zaQ.mp h1)] at k
   exact k H (Same.refl _)
  ·rw[if_neg (λz=>h1 (zaQ.mpr z))] at k
   refine⟨_,rfl,_,rfl,_,rfl,t,pl,rl,st,a,hh,p,rfl,tw,pa,hrw,hlen,λH1 l s1 n1 hl=>?_⟩
   refine⟨l,_,rfl,.inl (SqL.of hl),rfl,zfF _,(stillRead st p).contains c,?_,ite2 (λh2=>?_) (λh2=>?_)⟩
   ·show V.bl (if false=true then _ else inV (nat c) (natL (stillRead st p)))=_
    rw[if_neg Bool.false_ne_true,zoi]
   ·rw[if_pos (List.contains_iff_mem.mp h2)] at k
    exact k H1 s1
   ·rw[if_neg (λz=>h2 (List.contains_iff_mem.mpr z))] at k
    exact k H1 s1
def zce:Stmt:=top 75
theorem zcN:FnScope ["town","number","text","point","code"] ["town","number","text"] (defScope zce):=⟨rfl,rfl,rfl,by decide +kernel,rfl,by decide +kernel,by decide +kernel⟩
def zdZ (Ad:Adr):Sp:=λvs H Q E=>∃t L s n l b,∃m:Int,vs=[.ref t,.int m,.ref l]∧TownAt Ad.CP Ad.CT H t L s∧Good n s∧n≤401∧H l=some (.lst (intL (Vbpoan.bytes b)))∧KEx Ad H s (.read m b) E∧KQu H s (.read m b) Q
theorem zhB (D:DefIn K mg "tell_reading" zce ["town","number","text"]) (T:Txt K mg Ad) (zar:Callable P w K mg base 2 "find_point" ["town","number"] (zbl Ad)) (zak:Callable P w K mg base 1 "as_row" ["numbers"] zbc)
  (zaU:Callable P w K mg base 2 "code_read_from" ["text"] zc7) (zga:Callable P w K mg base 3 "how_read" ["town","point","code"] (zhq Ad.CP Ad.CT)):Callable P w K mg base 4 "tell_reading" ["town","number","text"] (zdZ Ad):=by
 refine D.ok (k:=3) zcN (λvs H Q E h=>?_) (λf cdv A outer s H vs Q E hr h=>?_)
 ·obtain⟨t,L,s,n,l,b,m,rfl,_⟩:=h;rfl
 ·obtain⟨t,L,st,n,l,b,m,rfl,tw,G,hn,hl,kE,kQ⟩:=h
  refine⟨_,(za2 (zah (i:=3) zcN.nd rfl (by first|exact Or.inl rfl|exact Or.inr rfl) (pe_fn zar (hr.mono (by decide)) rfl (passP λ_ _ _ z=>z) (za0 (pv 0) (za0 (pv 1) za4))))
   (za2 (zah (i:=4) zcN.nd rfl (by first|exact Or.inl rfl|exact Or.inr rfl) (pe_fn zaU (hr.mono (by decide)) rfl passN (za0 (pv 2) za4)))
   (za2 (ps_if (zaf op_eq (pv 4) (zaq rfl T.zc2) (nomark _)) (za5 (zd8 rfl T.zbQ T.zgN)) zag)
   (za5 (zac (pe_op zcQ (zas (za0 (pe_fn zga (hr.mono (by decide)) rfl passN (za0 (pv 0) (za0 (pv 3) (za0 (pv 4) za4)))) za4)) (pe_fn zak (hr.mono (by decide)) rfl passN (za0 (zas (za0 (zab (pv 3) rfl) za4)) za4)))))))),?_⟩
  refine⟨_,rfl,_,rfl,t,L,st,m,rfl,tw,λh=>kE 1 _ H (zkz h) ref1 (Same.refl _),λh h2=>kE 4 _ H (zhz h h2) ref4 (Same.refl _),λj x p hin hx hp hpo hid=>?_⟩
  obtain⟨p',hp',pa⟩:=Paired.get1 tw.pts.pt hx
  rw[hp] at hp'
  cases hp'
  obtain⟨p',hp',ph⟩:=Paired.get1 tw.had hx
  rw[hp] at hp'
  cases hp'
  obtain⟨dx,fs,e,F⟩:=id pa
  have hol:=G.old p (List.mem_of_getElem? hp)
  have es:Vbpoan.step st (.read m b)=(match Vbpoan.readCode b with|none=>Vbpoan.no st 2|some c=>Vbpoan.yes st (Vbpoan.readAs st p c) [Vbpoan.ints [p.code]]):=zhy hin hpo
  refine⟨_,rfl,l,b,rfl,hl,λH1 s1=>?_⟩
  refine⟨_,rfl,rfl,_,rfl,ite2 (λh1=>?_) (λh1=>?_)⟩
  ·have h1:codeI b=0:=by have:=of_decide_eq_true h1;injection this
   cases hr':Vbpoan.readCode b with
   | none =>
    rw[hr'] at es
    exact kE 2 _ H1 es ref2 s1
   | some c =>
    have:=zgm hr'
    omega
  ·have h1:¬ codeI b=0:=λz=>h1 (decide_eq_true (congrArg V.int z))
   cases hr':Vbpoan.readCode b with
   | none=>exact(h1 (zjf hr')).elim
   | some c =>
    rw[hr'] at es
    have ec:=(zgm hr').1
    unfold KQu at kQ
    rw[es] at kQ
    refine⟨_,rfl,_,rfl,_,rfl,t,L.pl,L.rl,st,x.1,x.2,p,c,by rw[ec];rfl,tw.tw.same s1,pa.same s1,ph.same s1,by omega,λH2 s2=>⟨(by show 1≤sizeLine;decide),λa ha=>?_⟩⟩
    have sH2:Same H H2:=Same.trans s1 s2
    have s3:∀o:HO,Same H (upd H2 a o):=λo=>Same.trans sH2 (za8 ha)
    refine⟨_,rfl,x.1,Ad.CP,dx,fs,_,rfl,s3 _ _ _ e,T.clCP,T.zb2,F.code,(by show 1≤sizeLine;decide),λb' hb'=>?_⟩
    have nab:a≠b':=λz=>by rw[←z,za1] at hb';cases hb'
    refine⟨b',_,rfl,za1,by show 1 < 100000;decide,λH4 c' s4 n4 hc=>?_⟩
    refine⟨a,c',_,_,rfl,rfl,s4 _ _ (by rw[za6 nab,za1]),hc,by show 1+2≤sizeLine;decide,λq hq=>?_⟩
    refine kQ _ q (Same.trans (Same.trans (s3 _) (za8 hb')) (Same.trans s4 (za8 hq))) ?_
    rw[za1]
    rfl
def zcf:Stmt:=top 78
theorem zb4:FnScope ["town","number","point","told","code","since","until"] ["town","number"] (defScope zcf):=⟨rfl,rfl,rfl,by decide +kernel,rfl,by decide +kernel,by decide +kernel⟩
def ze0 (Ad:Adr):Sp:=λvs H Q E=>∃t L s n,∃m:Int,vs=[.ref t,.int m]∧TownAt Ad.CP Ad.CT H t L s∧Good n s∧n≤401∧KEx Ad H s (.history m) E∧KQu H s (.history m) Q
def oldRow (o:Old):List V:=[.int 3,nat o.code,nat o.from_,nat o.until_]
theorem zkR:∀l:List Old,intL ((l.map λo=>Vbpoan.ints [o.code,o.from_,o.until_]).flatMap λr=>(r.length:Int)::r)=l.flatMap oldRow
 | []=>rfl
 | o::l=>by
  rw[List.map_cons,List.flatMap_cons,zbN,zkR l,List.flatMap_cons]
  rfl
theorem zmP (l:List Old):(l.flatMap oldRow).length=4 * l.length:=by
 induction l with
 | nil=>rfl
 | cons o l ih=>rw[List.flatMap_cons,List.length_append,ih,List.length_cons,Nat.mul_succ,Nat.add_comm];rfl
theorem zhC (D:DefIn K mg "tell_history" zcf ["town","number"]) (T:Txt K mg Ad) (zar:Callable P w K mg base 2 "find_point" ["town","number"] (zbl Ad)) (zak:Callable P w K mg base 1 "as_row" ["numbers"] zbc) :
  Callable P w K mg base 3 "tell_history" ["town","number"] (ze0 Ad):=by
 refine D.ok (k:=2) zb4 (λvs H Q E h=>?_) (λf cdv A outer s H vs Q E hr h=>?_)
 ·obtain⟨t,L,s,n,m,rfl,_⟩:=h;rfl
 ·obtain⟨t,L,st,n,m,rfl,tw,G,hn,kE,kQ⟩:=h
  have line:sizeLine=16777216:=sizeLine_eq
  refine⟨_,(za2 (zah (i:=2) zb4.nd rfl (by first|exact Or.inl rfl|exact Or.inr rfl) (pe_fn zar (hr.mono (by decide)) rfl (passP λ_ _ _ z=>z) (za0 (pv 0) (za0 (pv 1) za4))))
   (za2 (zah (i:=3) zb4.nd rfl (by first|exact Or.inl rfl|exact Or.inr rfl) (zas (za0 (zai zaa rfl T.b_len PySem.boot_len (za0 (zab (pv 2) rfl) za4)) za4)))
   (za2 (zbB ownP rfl (zaE (zab (pv 2) rfl)) (zgJ (n:=3) rfl (zax (zaj (i:=4) zb4.nd rfl (by first|exact Or.inl rfl|exact Or.inr rfl)) (zax (zaj (i:=5) zb4.nd rfl (by first|exact Or.inl rfl|exact Or.inr rfl)) (zax (zaj (i:=6) zb4.nd rfl (by first|exact Or.inl rfl|exact Or.inr rfl)) zde)))) (za5 (zaA (pe_bm PySem.F.plainAttrs_list PySem.F.slot_list_extend PySem.F.type_list_extend zhL (pv 3) (za0 (pe_fn zak (hr.mono (by decide)) rfl passN (za0 (zas (za0 (pv 4) (za0 (pv 5) (za0 (pv 6) za4)))) za4)) za4)))))
   (za5 (zac (pv 3)))))),?_⟩
  refine⟨_,rfl,_,rfl,t,L,st,m,rfl,tw,λh=>kE 1 _ H (zkz h) ref1 (Same.refl _),λh h2=>kE 4 _ H (zhz h h2) ref4 (Same.refl _),λj x p hin hx hp hpo hid=>?_⟩
  obtain⟨p',hp',dx,fs,e,F⟩:=Paired.get1 tw.pts.pt hx
  rw[hp] at hp'
  cases hp'
  obtain⟨p',hp',ts,hts,tps⟩:=Paired.get1 tw.had hx
  rw[hp] at hp'
  cases hp'
  have htl:ts.length=(p.olds.map oldV).length:=Paired.length tps
  rw[List.length_map] at htl
  have hol:=G.old p (List.mem_of_getElem? hp)
  have es:Vbpoan.step st (.history m)=Vbpoan.yes st p.olds.length (p.olds.map λo=>Vbpoan.ints [o.code,o.from_,o.until_]):=zhy hin hpo
  unfold KQu at kQ
  rw[es] at kQ
  refine⟨_,rfl,x.1,Ad.CP,dx,fs,_,rfl,e,T.clCP,T.p_had,F.had,x.2,_,rfl,.inl (SqL.of hts),(by show 1≤sizeLine;decide),λl hl=>?_⟩
  rw[List.length_map,htl]
  have s1:∀o:HO,Same H (upd H l o):=λo=>za8 hl
  refine⟨_,rfl,x.1,Ad.CP,dx,fs,_,rfl,s1 _ _ _ e,T.clCP,T.p_had,F.had,x.2,rfl,⟨_,SqL.of (s1 _ _ _ hts)⟩,zb0 (K:=K) (a:=x.2) (xs:=ts.map V.ref)
   (λi σ H'=>∃v4 v5 v6,σ=[some (.ref t),some (.int m),some (.ref x.1),some (.ref l),v4,v5,v6]∧Same H H'∧H' l=some (.lst (nat p.olds.length::(p.olds.take i).flatMap oldRow)))
   ⟨none,none,none,rfl,s1 _,za1⟩ (λi σ H' _ ⟨_,_,_,_,s2,_⟩=>SqL.of (s2 _ _ hts)) ?_ ?_⟩
  ·rintro i y σ H' hi ⟨v4,v5,v6,rfl,s2,hl2⟩
   obtain⟨tt,e1,rfl⟩:=zgF hi
   obtain⟨xs,e2,e3⟩:=Paired.get1 tps e1
   rw[List.getElem?_map] at e2
   cases er:p.olds[i]? with
   | none=>rw[er] at e2;cases e2
   | some o =>
    rw[er] at e2
    have e2:=Option.some.inj e2
    subst e2
    refine⟨tt,_,rfl,SqT.of (s2 _ _ e3),rfl,_,_,rfl,_,_,rfl,_,_,rfl,rfl,?_⟩
    refine⟨_,rfl,.inl ⟨rfl,_,SqL.of hl2⟩,_,rfl,_,rfl,_,rfl,(by show 3≤sizeLine;decide),λa ha=>?_⟩
    have s3:Same H' (upd H' a (.lst [nat o.code,nat o.from_,nat o.until_])):=za8 ha
    refine⟨a,_,rfl,za1,by show 3 < 100000;decide,λH3 b s4 n4 hb=>?_⟩
    have hlen:=zmP (p.olds.take i)
    rw[List.length_take] at hlen
    refine⟨l,b,_,_,rfl,rfl,s4 _ _ (s3 _ _ hl2),hb,by show (_+1)+4≤sizeLine;omega,_,_,_,rfl,λc oo ec=>?_,?_⟩
    ·rw[za6 (za7 ec hl)];exact s4 _ _ (s3 _ _ (s2 _ _ ec))
    ·rw[za1,zau er,List.flatMap_append]
     rfl
  ·rintro σ H' ⟨v4,v5,v6,rfl,s2,hl2⟩
   rw[List.length_map,htl,List.take_length] at hl2
   refine⟨_,rfl,kQ H' l s2 ?_⟩
   rw[hl2]
   show some (HO.lst _)=some (HO.lst (V.int (p.olds.length:Int)::intL ((p.olds.map λo=>Vbpoan.ints [o.code,o.from_,o.until_]).flatMap λr=>(r.length:Int)::r)))
   rw[zkR]
end
end Pd
end
section
namespace Pd
open PySem PySem.Spec PyProof.Rows L2
open Vbpoan (State Point Old Retired codesOf loadsOf isFree pointOf inside spread nsum onPoint)
open VbpoanNeutral (flat)
theorem zqx {β:Type} {K:PySem.W.Frag} {a:Addr} {xs:List V} {g:TG} {tt:TT} {te:TE} {vs:List Nat} {σ:L2.St} {H:Hp} {Q:Addr→Hp→Prop} (ys:List β) (F:β→List V) (hS:SqL K H a xs) (hl:xs.length=ys.length) (hz:ys.length≤sizeLine)
  (step:∀(i:Nat) (x:V) (y:β),xs[i]?=some x→ys[i]?=some y→∀H',Same H H'→∀R:Option V→Hp→Prop,(∀T,H' T=none→R (some (.ref T)) (upd H' T (.tup (F y))))→LcTurn g tt te vs σ x H' R)
  (fin:∀H' D,Same H H'→H D=none→RowsAt H' D (ys.map F)→Q D H') :
  ∀D,H D=none→∃W:Nat→Nat→Hp→Prop,(∃m,W 0 m (upd H D (.lst [])))∧∀i m H,W i m H→
   ((
    Itl K a).stop i H∧Q D H)∨((Itl K a).go i H∧∃Nx:Hp→Prop,(∀H',Nx H'→∃m',m' < m∧W (i+1) m' H')∧∀x H',(Itl K a).yld i H x H'→g x (wipe σ vs) H' λσ2 H2=>wipe σ2 vs=wipe σ vs∧tt σ2 H2 λb H3 =>
    if b=true then te σ2 H3 λy H4=>∃acc,H4 D=some (.lst acc)∧acc.length < sizeLine∧Nx (upd H4 D (.lst (acc++[y]))) else Nx H3):=by
 intro D hD
 refine⟨λi m H'=>m=ys.length - i∧i≤ys.length∧Same H H'∧RowsAt H' D ((ys.take i).map F),⟨ys.length,rfl,Nat.zero_le _,za8 hD,⟨[],za1,.nil⟩⟩,?_⟩
 rintro i m H1 ⟨rfl,hi,sm,hd⟩
 by_cases hlt:i < ys.length
 ·have hx:ys[i]?=some ys[i]:=List.getElem?_eq_getElem hlt
  have et:(ys.take (i+1)).map F=(ys.take i).map F++[F ys[i]]:=by rw[zau hx,List.map_append];rfl
  refine .inr ⟨⟨xs,xs[i]'(by omega),sm.seq hS,by simp[hl,hlt]⟩,λH'=>Same H H'∧RowsAt H' D ((ys.take (i+1)).map F),λH' p=>⟨ys.length - (i+1),by omega,rfl,hlt,p⟩,λx H' hq=>?_⟩
  obtain⟨e,hx'⟩:=hq
  subst e
  refine step i x ys[i] (hx' xs (sm.seq hS)) hx H' sm (λo H4=>match o with
   | some y=>∃acc,H4 D=some (.lst acc)∧acc.length < sizeLine∧(Same H (upd H4 D (.lst (acc++[y])))∧RowsAt (upd H4 D (.lst (acc++[y]))) D ((ys.take (i+1)).map F))
   | none=>Same H H4∧RowsAt H4 D ((ys.take (i+1)).map F)) λT hT=>?_
  obtain⟨ts,hts,tps⟩:=hd
  have htl:ts.length=_:=Paired.length tps
  rw[List.length_map,List.length_take] at htl
  refine⟨_,za8 hT _ _ hts,by rw[List.length_map];omega,λb o e=>?_,?_⟩
  ·rw[za6 (za7 e hD)]
   exact za8 hT _ _ (sm _ _ e)
  ·rw[et]
   exact zc0 hts tps hT
 ·have e:i=ys.length:=by omega
  subst e
  rw[List.take_length] at hd
  exact .inl ⟨⟨xs,sm.seq hS,by omega⟩,fin H1 D sm hD hd⟩
section
variable {P:Program} {w:World} {K:PySem.W.Frag} {mg:Str→Option Value} {base:Heap} {Ad:Adr}
def zdr:Stmt:=top 80
theorem zeK:FnScope ["town","point"] ["town"] (defScope zdr):=⟨rfl,rfl,rfl,by decide +kernel,rfl,by decide +kernel,by decide +kernel⟩
theorem ziR:BlkOk ["town","point"] (defScope zdr) { kind:=.function,names:=[(PySem.Str.ofString ".0",.local),(PySem.Str.ofString "point",.local)],isGenerator:=false,isCoroutine:=false,more:=[] } [("point",1)]:=⟨rfl,by decide +kernel,by decide +kernel,by decide +kernel,by decide +kernel⟩
def zhn (Ad:Adr):Sp:=λvs H Q _=>∃t L s,vs=[.ref t]∧TownAt Ad.CP Ad.CT H t L s∧s.points.length≤40∧KQu H s .row Q
def ptV (p:Point):List V:=[nat p.id,nat p.load,nat p.code]
theorem zjt:∀l:List Point,(l.map ptV).flatten=intL (l.flatMap λx=>Vbpoan.ints [x.id,x.load,x.code])
 | []=>rfl
 | r::l=>by
  rw[List.map_cons,List.flatten_cons,zjt l,List.flatMap_cons,zbN]
  rfl
theorem zlx (D:DefIn K mg "tell_row" zdr ["town"]) (T:Txt K mg Ad) (zaZ:Callable P w K mg base 2 "as_one_row" ["groups"] zcy):Callable P w K mg base 3 "tell_row" ["town"] (zhn Ad):=by
 refine D.ok (k:=2) zeK (λvs H Q E h=>?_) (λf cdv A outer s H vs Q E hr h=>?_)
 ·obtain⟨t,L,s,rfl,_⟩:=h;rfl
 ·obtain⟨t,L,st,rfl,tw,h40,kQ⟩:=h
  have line:sizeLine=16777216:=sizeLine_eq
  obtain⟨dt,fs,et,F⟩:=tw.tw
  have hlp:=tw.pts.len
  have hfl:(st.points.map ptV).flatten.length=3 * st.points.length:=by
   rw[zjt,List.length_map,zb7 st.points _ 3 λx=>rfl]
  refine⟨_,(za5 (zac (pe_op zcQ (zas (za0 (zai zaa rfl T.b_len PySem.boot_len (za0 (zab (pv 0) rfl) za4)) za4)) (pe_fn zaZ (hr.mono (by decide)) rfl passN (za0 (pe_lc rfl zeK.nd (zaE (zab (pv 0) rfl)) ziR (λ_ _ _ _ _=>by exact(zaj (i:=1) zeK.nd rfl (by first|exact Or.inl rfl|exact Or.inr rfl))) (λ_ _ _ _ _=>by exact zjx) (λ_ _ _ _ _=>by exact(zd9 (za0 (zdG (K:=K) rfl (pv 1) rfl) (za0 (zdG (K:=K) rfl (pv 1) rfl) (za0 (zdG (K:=K) rfl (pv 1) rfl) za4)))))) za4))))),?_⟩
  refine⟨_,rfl,t,Ad.CT,dt,fs,_,rfl,et,T.clCT,T.zap,F.points,L.pl,_,rfl,.inl (SqL.of tw.pts.lst),(by show 1≤sizeLine;decide),λa ha=>?_⟩
  have s1:∀o:HO,Same H (upd H a o):=λo=>za8 ha
  refine⟨_,rfl,t,Ad.CT,dt,fs,_,rfl,s1 _ _ _ et,T.clCT,T.zap,F.points,L.pl,rfl,⟨_,SqL.of (s1 _ _ _ tw.pts.lst)⟩,zqx (K:=K) (a:=L.pl) (xs:=L.ps.map λx=>V.ref x.1) st.points ptV (SqL.of (s1 _ _ _ tw.pts.lst)) (by rw[List.length_map,hlp]) (by omega) ?_ ?_⟩
  ·intro i x p hx hp H' s2 R hR
   obtain⟨b,hb,rfl⟩:=pt_at hx
   obtain⟨p',hp',dx,fp,e,FP⟩:=Paired.get1 tw.pts.pt hb
   rw[hp] at hp'
   cases hp'
   have e2:=s2 _ _ (s1 _ _ _ e)
   refine⟨rfl,iteT (B:=R none H') ⟨_,rfl,b.1,Ad.CP,dx,fp,_,rfl,e2,T.clCP,T.zfv,FP.number,_,rfl,b.1,Ad.CP,dx,fp,_,rfl,e2,T.clCP,T.zfw,FP.load,_,rfl,b.1,Ad.CP,dx,fp,_,rfl,e2,T.clCP,T.zb2,FP.code,(by show 3≤sizeLine;decide),λq hq=>hR q hq⟩⟩
  ·intro H2 d s2 n2 hd
   refine⟨d,_,rfl,hd,by omega,λH3 b s3 n3 hb=>?_⟩
   refine⟨a,b,_,_,rfl,rfl,s3 _ _ (s2 _ _ za1),hb,by show 1+(_+1)≤sizeLine;omega,λq hq=>?_⟩
   refine kQ _ q (Same.trans (Same.trans (s1 _) s2) (Same.trans s3 (za8 hq))) ?_
   rw[za1,List.length_map,hlp,zjt,List.length_map]
   show some (HO.lst _)=some (HO.lst (intL ((st.points.length:Int)::([st.points.flatMap λx=>Vbpoan.ints [x.id,x.load,x.code]].flatMap λr=>(r.length:Int)::r))))
   rw[List.flatMap_cons,List.flatMap_nil,List.append_nil]
   rfl
def zdz:Stmt:=top 70
theorem zgA:FnScope ["town","districts"] ["town"] (defScope zdz):=⟨rfl,rfl,rfl,by decide +kernel,rfl,by decide +kernel,by decide +kernel⟩
theorem zhw:∀l:List (Nat×Nat),(l.map pairV).flatten=intL (l.flatMap λx=>Vbpoan.ints [x.1,x.2])
 | []=>rfl
 | r::l=>by
  rw[List.map_cons,List.flatten_cons,zhw l,List.flatMap_cons,zbN]
  rfl
theorem zhm:∀{l:List (Nat×Nat)},(∀x∈l,x.2≠0∧0 < x.1)→∀c∈spread l,c≠0
 | [],_,c,h=>nomatch h
 | (n,d)::l,hl,c,h=>by
  rw[zaB,List.mem_append] at h
  rcases h with h|h
  ·rw[(List.mem_replicate.mp h).2];exact(hl _ List.mem_cons_self).1
  ·exact zhm (λx hx=>hl x (List.mem_cons_of_mem _ hx)) c h
theorem plan7 {s:State} (h:Vbpoan.bestWorth s=none):Vbpoan.step s .plan=Vbpoan.no s 7:=by
 show (match Vbpoan.bestWorth s with|none=>_|some w=>_)=_
 rw[h]
theorem plan8 {s:State} {w:Vbpoan.Worth} (h:Vbpoan.bestWorth s=some w) (h2:Vbpoan.plan s=none):Vbpoan.step s .plan=Vbpoan.no s 8:=by
 show (match Vbpoan.bestWorth s with|none=>_|some w=>match Vbpoan.plan s with|none=>_|some l=>_)=_
 rw[h,h2]
theorem zpl {s:State} {w:Vbpoan.Worth} {l:List (Nat×Nat)} (h:Vbpoan.bestWorth s=some w) (h2:Vbpoan.plan s=some l):Vbpoan.step s .plan=Vbpoan.yes s w.districts [Vbpoan.ints [w.kept],l.flatMap λx=>Vbpoan.ints [x.1,x.2]]:=by
 show (match Vbpoan.bestWorth s with|none=>_|some w=>match Vbpoan.plan s with|none=>_|some l=>_)=_
 rw[h,h2]
def zgu (Ad:Adr):Sp:=λvs H Q E=>∃t L s n,vs=[.ref t]∧TownAt Ad.CP Ad.CT H t L s∧Good n s∧n≤401∧KEx Ad H s .plan E∧KQu H s .plan Q
theorem zkC (D:DefIn K mg "tell_plan" zdz ["town"]) (T:Txt K mg Ad) (zc9:Callable P w K mg base 6 "make_plan" ["town"] (ze2 Ad)) (zak:Callable P w K mg base 1 "as_row" ["numbers"] zbc)
  (zaY:Callable P w K mg base 2 "count_kept" ["points","districts"] (zcx Ad.CP)) (zaZ:Callable P w K mg base 2 "as_one_row" ["groups"] zcy):Callable P w K mg base 7 "tell_plan" ["town"] (zgu Ad):=by
 refine D.ok (k:=6) zgA (λvs H Q E h=>?_) (λf cdv A outer s H vs Q E hr h=>?_)
 ·obtain⟨t,L,s,n,rfl,_⟩:=h;rfl
 ·obtain⟨t,L,st,n,rfl,tw,G,hn,kE,kQ⟩:=h
  have line:sizeLine=16777216:=sizeLine_eq
  obtain⟨dt,fs,et,F⟩:=tw.tw
  refine⟨_,(za2 (zah (i:=1) zgA.nd rfl (by first|exact Or.inl rfl|exact Or.inr rfl) (pe_fn zc9 (hr.mono (by decide)) rfl (passP λ_ _ _ z=>z) (za0 (pv 0) za4)))
   (za5 (zac (pe_op zcQ (pe_op zcQ (zas (za0 (zai zaa rfl T.b_len PySem.boot_len (za0 (pv 1) za4)) za4)) (pe_fn zak (hr.mono (by decide)) rfl passN (za0 (zas (za0 (pe_fn zaY (hr.mono (by decide)) rfl passN (za0 (zab (pv 0) rfl) (za0 (pv 1) za4))) za4)) za4))) (pe_fn zaZ (hr.mono (by decide)) rfl passN (za0 (pv 1) za4)))))),?_⟩
  refine⟨_,rfl,t,L,st,n,rfl,tw,G,hn,λh7 H' s'=>kE 7 _ H' (plan7 h7) ref7 s',λw hw hp H' s'=>kE 8 _ H' (plan8 hw hp) ref8 s',λwo l hw hp PI H1 d s1 n1 hrows=>?_⟩
  unfold KQu at kQ
  rw[zpl hw hp] at kQ
  have hll:=zeP PI
  have h40:=G.len
  have hsp:(spread l).length≤1000:=by rw[PI.len];omega
  obtain⟨ts,hts,tps⟩:=hrows
  have htl:ts.length=(l.map pairV).length:=Paired.length tps
  rw[List.length_map] at htl
  refine⟨_,rfl,d,_,rfl,.inl (SqL.of hts),(by show 1≤sizeLine;decide),λa ha=>?_⟩
  have s2:∀o:HO,Same H1 (upd H1 a o):=λo=>za8 ha
  refine⟨_,rfl,t,Ad.CT,dt,fs,_,rfl,s2 _ _ _ (s1 _ _ et),T.clCT,T.zap,F.points,_,rfl,L.pl,L.ps,st.points,d,l,rfl,tw.pts.same (Same.trans s1 (s2 _)),RowsAt.same ⟨ts,hts,tps⟩ (s2 _),hsp,λH3 s3=>?_⟩
  refine⟨(by show 1≤sizeLine;decide),λb hb=>?_⟩
  have s4:∀o:HO,Same H3 (upd H3 b o):=λo=>za8 hb
  refine⟨b,_,rfl,za1,by show 1 < 100000;decide,λH5 c s5 n5 hc=>?_⟩
  have sA:Same (upd H1 a (.lst [.int ((ts.map V.ref).length:Int)])) H5:=Same.trans s3 (Same.trans (s4 _) s5)
  refine⟨a,c,_,_,rfl,rfl,sA _ _ za1,hc,by show 1+2≤sizeLine;decide,λq hq=>?_⟩
  have s6:∀o:HO,Same H5 (upd H5 q o):=λo=>za8 hq
  have hfl:(l.map pairV).flatten.length=2 * l.length:=by
   rw[zhw,List.length_map,zb7 l _ 2 λx=>rfl]
  refine⟨_,rfl,d,_,rfl,RowsAt.same ⟨ts,hts,tps⟩ (Same.trans (Same.trans (s2 _) sA) (s6 _)),by omega,λH7 e s7 n7 he=>?_⟩
  refine⟨q,e,_,_,rfl,rfl,s7 _ _ za1,he,by show 3+(_+1)≤sizeLine;omega,λr hr2=>?_⟩
  refine kQ _ r (Same.trans (Same.trans (Same.trans s1 (s2 _)) sA) (Same.trans (Same.trans (s6 _) s7) (za8 hr2))) ?_
  rw[za1,zhw,List.length_map,List.length_map,htl,PI.d,PI.kept,zhZ (zhm PI.pos)]
  show some (HO.lst _)=some (HO.lst (intL ((l.length:Int)::([Vbpoan.ints [keptC (codesOf st) (spread l)],l.flatMap λx=>Vbpoan.ints [x.1,x.2]].flatMap λr=>(r.length:Int)::r))))
  rw[List.flatMap_cons,List.flatMap_cons,List.flatMap_nil,List.append_nil]
  rfl
def zaO:Stmt:=top 73
theorem zaz:FnScope ["town","code","having","point","load"] ["town","code"] (defScope zaO):=⟨rfl,rfl,rfl,by decide +kernel,rfl,by decide +kernel,by decide +kernel⟩
theorem zfb:BlkOk ["town","code","having","point","load"] (defScope zaO) { kind:=.function,names:=[(PySem.Str.ofString ".0",.local),(PySem.Str.ofString "point",.local),(PySem.Str.ofString "code",.free)],isGenerator:=false,isCoroutine:=false,more:=[] } [("point",3)]:=⟨rfl,by decide +kernel,by decide +kernel,by decide +kernel,by decide +kernel⟩
theorem zfa:BlkOk ["town","code","having","point","load"] (defScope zaO) { kind:=.function,names:=[(PySem.Str.ofString ".0",.local),(PySem.Str.ofString "point",.local)],isGenerator:=false,isCoroutine:=false,more:=[] } [("point",3)]:=⟨rfl,by decide +kernel,by decide +kernel,by decide +kernel,by decide +kernel⟩
theorem zf9:BlkOk ["town","code","having","point","load"] (defScope zaO) { kind:=.function,names:=[(PySem.Str.ofString ".0",.local),(PySem.Str.ofString "point",.local)],isGenerator:=false,isCoroutine:=false,more:=[] } [("point",3)]:=⟨rfl,by decide +kernel,by decide +kernel,by decide +kernel,by decide +kernel⟩
def zdN (Ad:Adr):Sp:=λvs H Q E=>∃t L s,∃c:Int,vs=[.ref t,.int c]∧TownAt Ad.CP Ad.CT H t L s∧s.points.length≤40∧KEx Ad H s (.district c) E∧KQu H s (.district c) Q
theorem Paired.zip_get {α β:Type} {R:α→β→Prop} {as:List α} {bs:List β} {i:Nat} {y:α×β} (h:Paired R as bs) (hy:(as.zip bs)[i]?=some y):as[i]?=some y.1∧bs[i]?=some y.2∧R y.1 y.2:=by
 obtain⟨h1,h2⟩:=List.getElem?_zip_eq_some.mp hy
 obtain⟨b,hb,r⟩:=Paired.get1 h h1
 rw[h2] at hb
 cases hb
 exact⟨h1,h2,r⟩
theorem Paired.zq8 {α β:Type} {R:α→β→Prop} {as:List α} {bs:List β} {y:α×β} (h:Paired R as bs) (hy:y∈as.zip bs):R y.1 y.2:=by
 obtain⟨i,hi⟩:=List.getElem?_of_mem hy
 exact(Paired.zip_get h hi).2.2
theorem zex {α β:Type} (p:β→Bool):∀(as:List α) (bs:List β),as.length=bs.length→((as.zip bs).filter λy=>p y.2).map (·.2)=bs.filter p
 | [],[],_=>rfl
 | a::as,b::bs,h=>by
  rw[List.zip_cons_cons,List.filter_cons,List.filter_cons]
  have ih:=zex p as bs (by simpa using h)
  cases q:p b with
  | true=>simp only[if_true,List.map_cons,ih]
  | false=>simpa using ih
theorem zgU (D:DefIn K mg "tell_district" zaO ["town","code"]) (T:Txt K mg Ad) (za9:Callable P w K mg base 1 "check_range" ["number","least","greatest"] (zay Ad)) (zak:Callable P w K mg base 1 "as_row" ["numbers"] zbc) :
  Callable P w K mg base 2 "tell_district" ["town","code"] (zdN Ad):=by
 refine D.ok (k:=1) zaz (λvs H Q E h=>?_) (λf cdv A outer s H vs Q E hr h=>?_)
 ·obtain⟨t,L,s,c,rfl,_⟩:=h;rfl
 ·obtain⟨t,L,st,c,rfl,tw,h40,kE,kQ⟩:=h
  have line:sizeLine=16777216:=sizeLine_eq
  obtain⟨dt,fs,et,F⟩:=tw.tw
  have hlp:=tw.pts.len
  refine⟨_,(za2 (zaA (pe_fn za9 (hr.mono (by decide)) rfl (passP λ_ _ _ z=>z) (za0 (pv 1) (za0 (zaq rfl T.zcp) (za0 (zaq rfl T.zc3) za4)))))
   (za2 (zjy (i:=2) rfl zaz.nd rfl rfl (zlo rfl rfl rfl rfl) (zaE (zab (pv 0) rfl)) zfb (λ_ _ _ _ _=>by exact(zaj (i:=3) zaz.nd rfl (by first|exact Or.inl rfl|exact Or.inr rfl))) (λ_ _ _ _ _=>by exact zeN (zaf op_eq (zdG (K:=K) rfl (pv 3) rfl) (pv 1) (nomark _))) (λ_ _ _ _ _=>by exact(pv 3)))
   (za2 (zah (i:=4) zaz.nd rfl (by first|exact Or.inl rfl|exact Or.inr rfl) (zai (zig rfl) rfl T.b_sum zii (za0 (pe_lc rfl zaz.nd (zaE (pv 2)) zfa (λ_ _ _ _ _=>by exact(zaj (i:=3) zaz.nd rfl (by first|exact Or.inl rfl|exact Or.inr rfl))) (λ_ _ _ _ _=>by exact zjx) (λ_ _ _ _ _=>by exact(zdG (K:=K) rfl (pv 3) rfl))) za4)))
   (za5 (zac (pe_op zcQ (pe_op zcQ (zas (za0 (zai zaa rfl T.b_len PySem.boot_len (za0 (pv 2) za4)) za4)) (pe_fn zak (hr.mono (by decide)) rfl passN (za0 (pe_lc rfl zaz.nd (zaE (pv 2)) zf9 (λ_ _ _ _ _=>by exact(zaj (i:=3) zaz.nd rfl (by first|exact Or.inl rfl|exact Or.inr rfl))) (λ_ _ _ _ _=>by exact zjx) (λ_ _ _ _ _=>by exact(zdG (K:=K) rfl (pv 3) rfl))) za4))) (pe_fn zak (hr.mono (by decide)) rfl passN (za0 (zas (za0 (pv 4) za4)) za4)))))))),?_⟩
  have es:Vbpoan.step st (.district c)=if Vbpoan.isCode c=false then Vbpoan.no st 1 else Vbpoan.yes st (st.points.filter λx=>(x.code:Int) == c).length [Vbpoan.ints ((st.points.filter λx=>(x.code:Int) == c).map λx=>x.id),Vbpoan.ints [nsum ((st.points.filter λx=>(x.code:Int) == c).map λx=>x.load)]]:=rfl
  refine⟨_,rfl,c,100,999,rfl,λh=>kE 1 _ H (es.trans (if_pos h)) ref1 (Same.refl _),λh=>?_⟩
  unfold KQu at kQ
  rw[es,if_neg (by show ¬ inside c 100 999=false;rw[h];exact λz=>nomatch z)] at kQ
  have hys:(L.ps.zip st.points).length=st.points.length:=by rw[List.length_zip,hlp,Nat.min_self]
  refine⟨_,rfl,t,Ad.CT,dt,fs,_,rfl,et,T.clCT,T.zap,F.points,L.pl,rfl,⟨_,SqL.of tw.pts.lst⟩,ze5 (K:=K) (a:=L.pl) (xs:=L.ps.map λx=>V.ref x.1) (L.ps.zip st.points) (λy=>if ((y.2.code:Int) == c)=true then some (V.ref y.1.1) else none) (SqL.of tw.pts.lst) (by rw[List.length_map,hys,hlp]) (by omega) ?_ ?_⟩
  ·intro i x y hx hy H' s1 R hR
   obtain⟨b,hb,rfl⟩:=pt_at hx
   obtain⟨h1,h2,dx,fp,e,FP⟩:=Paired.zip_get tw.pts.pt hy
   rw[hb] at h1
   cases h1
   have hR:=hR H' (Same.refl _)
   refine⟨rfl,⟨_,rfl,y.1.1,Ad.CP,dx,fp,_,rfl,s1 _ _ e,T.clCP,T.zb2,FP.code,_,rfl,rfl,_,rfl,ite2 (λhc=>?_) (λhc=>?_)⟩⟩
   ·rw[if_pos (by have:=of_decide_eq_true hc;injection this with this;exact beq_iff_eq.mpr this)] at hR
    exact⟨_,rfl,hR⟩
   ·rw[if_neg (λz=>hc (decide_eq_true (congrArg V.int (eq_of_beq z))))] at hR
    exact hR
  ·intro H1 hv s1 n1 hhv
   rw[fm_if (λy:(Addr×Addr)×Point=>(y.2.code:Int) == c) (λy=>V.ref y.1.1)] at hhv
   generalize hZ:(L.ps.zip st.points).filter (λy=>(y.2.code:Int) == c)=Z at hhv
   have eZ:Z.map (·.2)=st.points.filter λx=>(x.code:Int) == c:=by rw[←hZ];exact zex (λx:Point=>(x.code:Int) == c) _ _ hlp
   rw[←eZ] at kQ
   have zpt:∀y∈Z,PtAt Ad.CP H y.1.1 y.1.2 y.2:=λy hy=>by
    rw[←hZ] at hy
    exact Paired.zq8 tw.pts.pt (List.mem_filter.mp hy).1
   have hZl:Z.length≤40:=by
    rw[←hZ]
    exact Nat.le_trans (List.length_filter_le _ _) (by omega)
   refine⟨_,rfl,hv,rfl,⟨_,SqL.of hhv⟩,ze5 (K:=K) (a:=hv) (xs:=Z.map λy=>V.ref y.1.1) Z (λy=>some (nat y.2.load)) (SqL.of hhv) (by rw[List.length_map]) (by omega) ?_ ?_⟩
   ·intro i x y hx hy H' s2 R hR
    rw[List.getElem?_map,hy] at hx
    cases hx
    obtain⟨dx,fp,e,FP⟩:=zpt y (List.mem_of_getElem? hy)
    exact⟨rfl,iteT (B:=R none H') ⟨_,rfl,y.1.1,Ad.CP,dx,fp,_,rfl,s2 _ _ (s1 _ _ e),T.clCP,T.zfw,FP.load,hR H' (Same.refl _)⟩⟩
   ·intro H2 z s2 n2 hz
    rw[zos] at hz
    have ez:(Z.map λy=>nat y.2.load)=(Vbpoan.ints ((Z.map (·.2)).map λx=>x.load)).map V.int:=by
     unfold Vbpoan.ints;rw[List.map_map,List.map_map,List.map_map];rfl
    rw[ez] at hz
    refine⟨z,_,rfl,SqL.of hz,?_⟩
    rw[sum_ints]
    have sH2:Same H H2:=Same.trans s1 s2
    refine⟨_,rfl,hv,_,rfl,.inl (SqL.of (s2 _ _ hhv)),(by show 1≤sizeLine;decide),λa ha=>?_⟩
    have s3:∀o:HO,Same H2 (upd H2 a o):=λo=>za8 ha
    refine⟨_,rfl,hv,rfl,⟨_,SqL.of (s3 _ _ _ (s2 _ _ hhv))⟩,ze5 (K:=K) (a:=hv) (xs:=Z.map λy=>V.ref y.1.1) Z (λy=>some (nat y.2.id)) (SqL.of (s3 _ _ _ (s2 _ _ hhv))) (by rw[List.length_map]) (by omega) ?_ ?_⟩
    ·intro i x y hx hy H' s4 R hR
     rw[List.getElem?_map,hy] at hx
     cases hx
     obtain⟨dx,fp,e,FP⟩:=zpt y (List.mem_of_getElem? hy)
     exact⟨rfl,iteT (B:=R none H') ⟨_,rfl,y.1.1,Ad.CP,dx,fp,_,rfl,s4 _ _ (s3 _ _ _ (sH2 _ _ e)),T.clCP,T.zfv,FP.number,hR H' (Same.refl _)⟩⟩
    ·intro H4 ids s4 n4 hids
     rw[zos] at hids
     refine⟨ids,_,rfl,hids,by rw[List.length_map];omega,λH5 b s5 n5 hb=>?_⟩
     refine⟨a,b,_,_,rfl,rfl,s5 _ _ (s4 _ _ za1),hb,by show 1+((Z.map λy=>nat y.2.id).length+1)≤sizeLine;rw[List.length_map];omega,λq hq=>?_⟩
     have s6:∀o:HO,Same H5 (upd H5 q o):=λo=>za8 hq
     refine⟨_,rfl,(by show 1≤sizeLine;decide),λu hu=>?_⟩
     refine⟨u,_,rfl,za1,by show 1 < 100000;decide,λH7 v s7 n7 hv7=>?_⟩
     refine⟨q,v,_,_,rfl,rfl,s7 _ _ (za8 hu _ _ za1),hv7,?_,λr hr2=>?_⟩
     ·simp only[List.length_append,List.length_cons,List.length_nil,List.length_map]
      omega
     ·refine kQ _ r (Same.trans (Same.trans (Same.trans sH2 (s3 _)) (Same.trans s4 s5)) (Same.trans (Same.trans (s6 _) (za8 hu)) (Same.trans s7 (za8 hr2)))) ?_
      rw[za1,List.length_map,List.length_map]
      have ei:(Z.map λy=>nat y.2.id)=intL (Vbpoan.ints ((Z.map (·.2)).map λx=>x.id)):=by
       unfold Vbpoan.ints;rw[List.map_map,List.map_map];show _=List.map V.int _;rw[List.map_map];rfl
      rw[ei]
      show some (HO.lst _)=some (HO.lst (intL (((Z.map (·.2)).length:Int)::([Vbpoan.ints ((Z.map (·.2)).map λx=>x.id),Vbpoan.ints [nsum ((Z.map (·.2)).map λx=>x.load)]].flatMap λr=>(r.length:Int)::r))))
      rw[List.flatMap_cons,List.flatMap_cons,List.flatMap_nil,List.append_nil,ints_length,List.length_map,List.length_map,List.length_map]
      show _=some (HO.lst (.int (Z.length:Int)::intL (((Z.length:Int)::Vbpoan.ints ((Z.map (·.2)).map λx=>x.id))++_)))
      rw[zbN]
      rfl
end
end Pd
end
section
namespace Pd
open PySem PySem.Spec PyProof.Rows L2
open Vbpoan (State Point Old Retired codesOf loadsOf isFree pointOf inside spread nsum onPoint)
open VbpoanNeutral (flat)
def KAc (Ad:Adr) (H:Hp) (t:Addr) (L:Lay) (s:State) (c:Vbpoan.Call) (Q:VK):Prop :=
 ∀H' p L',Kept (L.foot t) H H'→(∀b∈L'.foot t,b∈L.foot t∨H b=none)→TownAt Ad.CP Ad.CT H' t L' (Vbpoan.step s c).1→H' p=some (.lst (intL (flat (Vbpoan.step s c).2)))→Q (.ref p) H'
theorem zdt {L:Lay} {t:Addr} {H:Hp}:∀b∈L.foot t,b∈L.foot t∨H b=none:=λ_ h=>.inl h
theorem t_in {L:Lay} {t:Addr}:∀b∈[t],b∈L.foot t:=λb h=>by rw[List.mem_singleton.mp h];exact List.mem_cons_self
section
variable {CP CT:Addr} {H H':Hp} {t:Addr} {s s':State} {L:Lay}
theorem TownAt.zfU (ne:CP≠CT) (x:TownAt CP CT H t L s) {a h:Addr} {p:Point} (q:PtAt CP H a h p):a≠t:=λz=>by
 obtain⟨dx,fs,e,_⟩:=q
 obtain⟨dt,ft,e2,_⟩:=x.tw
 rw[z,e2] at e
 have e:=Option.some.inj e
 injection e with e1
 exact ne e1.symm
theorem zjL {a:Addr} {xs:List V} {pl rl:Addr} (x:TwAt CT H t pl rl s) (e:H a=some (.lst xs)):a≠t:=λz=>by
 obtain⟨dt,ft,e2,_⟩:=x
 rw[z,e2] at e
 cases e
theorem zcl {a:Addr} {xss:List (List V)} {pl rl:Addr} (x:TwAt CT H t pl rl s) (e:RowsAt H a xss):a≠t:=by
 obtain⟨ts,e,_⟩:=e
 exact zjL x e
theorem TownAt.setT (ne:CP≠CT) (x:TownAt CP CT H t L s) (k:Kept [t] H H') (w:TwAt CT H' t L.pl L.rl s') (hp:s'.points=s.points) (hr:s'.retired=s.retired):TownAt CP CT H' t L s':=by
 have hS:∀b∈[t],∀xs,H b≠some (.tup xs):=λb hb=>by rw[List.mem_singleton.mp hb];exact x.tw.notTup
 refine⟨w,⟨k _ _ x.pts.lst (by simpa using zjL x.tw x.pts.lst),?_⟩,?_,?_,x.nd1,x.nd2⟩
 ·rw[hp]
  exact Paired.imp' (λy p q=>PtAt.kept q k (by simpa using x.zfU ne q)) x.pts.pt
 ·rw[hp]
  exact Paired.imp' (λy p q=>RowsAt.kept q k (by simpa using zcl x.tw q) hS) x.had
 ·rw[hr]
  exact x.ret.kept k (by simpa using zcl x.tw x.ret) hS
theorem Paired.mem1 {α β:Type} {R:α→β→Prop}:∀{as:List α} {bs:List β} {a:α},Paired R as bs→a∈as→∃b∈bs,R a b
 | _,_,_,.nil,h=>nomatch h
 | _,_,a,.cons r t,h=>by
  rcases List.mem_cons.mp h with e|e
  ·subst e;exact⟨_,List.mem_cons_self,r⟩
  ·obtain⟨b,hb,q⟩:=Paired.mem1 t e;exact⟨b,List.mem_cons_of_mem _ hb,q⟩
theorem TownAt.setPts {pts:List Point} (ne:CP≠CT) (x:TownAt CP CT H t L s) (k:Kept (L.ps.map (·.1)++L.ps.map (·.2)) H H') (pt:Paired (λy p=>PtAt CP H' y.1 y.2 p) L.ps pts)
  (had:Paired (λy p=>RowsAt H' y.2 (p.olds.map oldV)) L.ps pts):TownAt CP CT H' t L { s with points:=pts }:=by
 obtain⟨n1,n2⟩:=x.pl_ne
 have cs:∀b∈L.ps.map (·.1)++L.ps.map (·.2),(∃h p,PtAt CP H b h p)∨(∃y∈L.ps,y.2=b∧∃xss,RowsAt H b xss):=λb hb=>by
  rcases List.mem_append.mp hb with h|h
  ·obtain⟨y,hy,rfl⟩:=List.mem_map.mp h
   obtain⟨p,_,q⟩:=Paired.mem1 x.pts.pt hy
   exact .inl ⟨_,_,q⟩
  ·obtain⟨y,hy,rfl⟩:=List.mem_map.mp h
   obtain⟨p,_,q⟩:=Paired.mem1 x.had hy
   exact .inr ⟨y,hy,rfl,_,q⟩
 have hS:∀b∈L.ps.map (·.1)++L.ps.map (·.2),∀xs,H b≠some (.tup xs):=λb hb=>by
  rcases cs b hb with ⟨_,_,q⟩|⟨_,_,_,_,q⟩
  ·exact q.notTup
  ·exact q.notTup
 refine⟨?_,⟨?_,pt⟩,had,?_,x.nd1,x.nd2⟩
 ·obtain⟨dx,fs,e,F⟩:=x.tw.kept k λhb=>by
   rcases cs t hb with ⟨_,_,q⟩|⟨_,_,_,_,q⟩
   ·exact x.zfU ne q rfl
   ·exact zcl x.tw q rfl
  exact⟨dx,fs,e,⟨F.day,F.grace,F.cap,F.points,F.retired,F.given,F.few,F.noR⟩⟩
 ·refine k _ _ x.pts.lst λhb=>?_
  rcases cs _ hb with ⟨_,_,q⟩|⟨y,hy,z,_⟩
  ·obtain⟨_,_,z⟩:=q.is x.pts.lst;cases z
  ·exact(n2 y hy).1 z
 ·refine x.ret.kept k (λhb=>?_) hS
  rcases cs _ hb with ⟨_,_,q⟩|⟨y,hy,z,_⟩
  ·obtain⟨ts,e,_⟩:=x.ret
   obtain⟨_,_,z⟩:=q.is e;cases z
  ·exact(n2 y hy).2 z
end
section
variable {P:Program} {w:World} {K:PySem.W.Frag} {mg:Str→Option Value} {base:Heap} {Ad:Adr}
def zd4:Stmt:=top 49
theorem zjr:FnScope ["town","grace","cap"] ["town","grace","cap"] (defScope zd4):=⟨rfl,rfl,rfl,by decide +kernel,rfl,by decide +kernel,by decide +kernel⟩
def zfi (Ad:Adr):Sp:=λvs H Q E=>∃t L s,∃g c:Int,vs=[.ref t,.int g,.int c]∧TownAt Ad.CP Ad.CT H t L s∧KEx Ad H s (.begin g c) E∧KAc Ad H t L s (.begin g c) Q
theorem zjG (D:DefIn K mg "begin_anew" zd4 ["town","grace","cap"]) (T:Txt K mg Ad) (za9:Callable P w K mg base 1 "check_range" ["number","least","greatest"] (zay Ad))
  (zg8:CallableM P w K mg base 1 Ad.CT "renew" ["self","grace","cap"] (zjm Ad.CP Ad.CT)):Callable P w K mg base 2 "begin_anew" ["town","grace","cap"] (zfi Ad):=by
 refine D.ok (k:=1) zjr (λvs H Q E h=>?_) (λf cdv A outer s H vs Q E hr h=>?_)
 ·obtain⟨t,L,s,g,c,rfl,_⟩:=h;rfl
 ·obtain⟨t,L,st,g,c,rfl,tw,kE,kQ⟩:=h
  obtain⟨dt,fs,et,F⟩:=tw.tw
  refine⟨_,(za2 (zaA (pe_fn za9 (hr.mono (by decide)) rfl (passP λ_ _ _ z=>z) (za0 (pv 1) (za0 zae (za0 (zaq rfl T.zh6) za4)))))
   (za2 (zaA (pe_fn za9 (hr.mono (by decide)) rfl (passP λ_ _ _ z=>z) (za0 (pv 2) (za0 zae (za0 (zaq rfl T.zeH) za4)))))
   (za2 (zaA (pe_mt zg8 T.clCT (hr.mono (by decide)) passN (pv 0) (za0 (pv 1) (za0 (pv 2) za4))))
   (za5 (zac (zas (za0 zae za4))))))),?_⟩
  have es:Vbpoan.step st (.begin g c)=if inside g 0 1000=false∨inside c 1 1000000=false then Vbpoan.no st 1 else Vbpoan.yes { Vbpoan.start with grace:=g.toNat,cap:=c.toNat } 0 []:=rfl
  refine⟨_,rfl,g,0,1000,rfl,λh=>kE 1 _ H (es.trans (if_pos (.inl h))) ref1 (Same.refl _),λh1=>?_⟩
  refine⟨_,rfl,c,1,1000000,rfl,λh=>kE 1 _ H (es.trans (if_pos (.inr h))) ref1 (Same.refl _),λh2=>?_⟩
  unfold KAc at kQ
  rw[es,if_neg (λz=>by rcases z with z|z<;>simp_all)] at kQ
  obtain⟨g',rfl⟩:∃k:Nat,g=(k:Int):=⟨g.toNat,by have:=zaD.mp h1;omega⟩
  obtain⟨c',rfl⟩:∃k:Nat,c=(k:Int):=⟨c.toNat,by have:=zaD.mp h2;omega⟩
  refine⟨_,rfl,t,dt,fs,rfl,et,F.noR,_,rfl,_,rfl,t,dt,fs,g',c',rfl,et,.inr ⟨F.has,F.few⟩,F.noR,λH1 pl rl k1 n1 n2 tw1=>?_⟩
  refine⟨(by show 1≤sizeLine;decide),λa ha=>?_⟩
  refine kQ _ a ⟨pl,rl,[]⟩ ((k1.comp (Same.kept _ (za8 ha))).mono t_in) (λb hb=>?_) (tw1.same (za8 ha)) za1
  simp only[Lay.foot,List.map_nil,List.append_nil,List.mem_cons,List.not_mem_nil,or_false] at hb
  rcases hb with z|z|z
  ·subst z;exact .inl List.mem_cons_self
  ·subst z;exact .inr n1
  ·subst z;exact .inr n2
def zd3:Stmt:=top 54
theorem zfo:FnScope ["town","cap","cap_before"] ["town","cap"] (defScope zd3):=⟨rfl,rfl,rfl,by decide +kernel,rfl,by decide +kernel,by decide +kernel⟩
def zfh (Ad:Adr):Sp:=λvs H Q E=>∃t L s,∃c:Int,vs=[.ref t,.int c]∧TownAt Ad.CP Ad.CT H t L s∧KEx Ad H s (.cap c) E∧KAc Ad H t L s (.cap c) Q
theorem zjF (D:DefIn K mg "change_cap" zd3 ["town","cap"]) (T:Txt K mg Ad) (za9:Callable P w K mg base 1 "check_range" ["number","least","greatest"] (zay Ad)) :
  Callable P w K mg base 2 "change_cap" ["town","cap"] (zfh Ad):=by
 refine D.ok (k:=1) zfo (λvs H Q E h=>?_) (λf cdv A outer s H vs Q E hr h=>?_)
 ·obtain⟨t,L,s,c,rfl,_⟩:=h;rfl
 ·obtain⟨t,L,st,c,rfl,tw,kE,kQ⟩:=h
  obtain⟨dt,fs,et,F⟩:=tw.tw
  refine⟨_,(za2 (zaA (pe_fn za9 (hr.mono (by decide)) rfl (passP λ_ _ _ z=>z) (za0 (pv 1) (za0 zae (za0 (zaq rfl T.zeH) za4)))))
   (za2 (zah (i:=2) zfo.nd rfl (by first|exact Or.inl rfl|exact Or.inr rfl) (zab (pv 0) rfl))
   (za2 (zc4 (pv 0) (pv 1) rfl)
   (za5 (zac (zas (za0 (pv 2) za4))))))),?_⟩
  have es:Vbpoan.step st (.cap c)=if inside c 1 1000000=false then Vbpoan.no st 1 else Vbpoan.yes { st with cap:=c.toNat } st.cap []:=rfl
  refine⟨_,rfl,c,1,1000000,rfl,λh=>kE 1 _ H (es.trans (if_pos h)) ref1 (Same.refl _),λh2=>?_⟩
  unfold KAc at kQ
  rw[es,if_neg (λz=>by simp_all)] at kQ
  obtain⟨c',rfl⟩:∃k:Nat,c=(k:Int):=⟨c.toNat,by have:=zaD.mp h2;omega⟩
  refine⟨_,rfl,t,Ad.CT,dt,fs,_,rfl,et,T.clCT,T.t_cap,F.cap,?_⟩
  refine⟨_,rfl,_,rfl,t,Ad.CT,dt,fs,rfl,et,T.clCT,T.t_cap,by have:=F.few;omega,?_⟩
  refine⟨_,rfl,(by show 1≤sizeLine;decide),λa ha=>?_⟩
  have s1:Same (upd H t (.ins Ad.CT dt (putF "cap" (nat c') fs))) _:=za8 (o:=.lst [nat st.cap]) ha
  refine kQ _ a L ((zaG.comp (Same.kept _ s1)).mono t_in) zdt (TownAt.same (tw.setT T.ne1 zaG ⟨dt,_,za1,?_⟩ rfl rfl) s1) za1
  refine⟨za3 _ (by decide) F.day,za3 _ (by decide) F.grace,zal _ _ _,za3 _ (by decide) F.points,za3 _ (by decide) F.retired,za3 _ (by decide) F.given,?_,za3 _ (by decide) F.noR⟩
  rw[zbJ _ _ _ (by rw[F.cap];rfl)]
  exact F.few
def zdD:Stmt:=top 55
theorem zkm:FnScope ["town","days"] ["town","days"] (defScope zdD):=⟨rfl,rfl,rfl,by decide +kernel,rfl,by decide +kernel,by decide +kernel⟩
def zgy (Ad:Adr):Sp:=λvs H Q E=>∃t L s,∃c:Int,vs=[.ref t,.int c]∧TownAt Ad.CP Ad.CT H t L s∧KEx Ad H s (.day c) E∧KAc Ad H t L s (.day c) Q
theorem zkG (D:DefIn K mg "pass_days" zdD ["town","days"]) (T:Txt K mg Ad) (za9:Callable P w K mg base 1 "check_range" ["number","least","greatest"] (zay Ad)) :
  Callable P w K mg base 2 "pass_days" ["town","days"] (zgy Ad):=by
 refine D.ok (k:=1) zkm (λvs H Q E h=>?_) (λf cdv A outer s H vs Q E hr h=>?_)
 ·obtain⟨t,L,s,c,rfl,_⟩:=h;rfl
 ·obtain⟨t,L,st,c,rfl,tw,kE,kQ⟩:=h
  obtain⟨dt,fs,et,F⟩:=tw.tw
  refine⟨_,(za2 (zaA (pe_fn za9 (hr.mono (by decide)) rfl (passP λ_ _ _ z=>z) (za0 (pv 1) (za0 zae (za0 (zaq rfl T.zm3) za4)))))
   (za2 (ps_if (zaf op_gt (pe_op zcm (zab (pv 0) rfl) (pv 1)) (zaq rfl T.znm) (nomark _)) (za5 (zd8 rfl T.zej T.zgd)) zag)
   (za2 (zfu (pv 0) (pv 1) zmt)
   (za5 (zac (zas (za0 (zab (pv 0) rfl) za4))))))),?_⟩
  have es:Vbpoan.step st (.day c)=if inside c 0 1000=false then Vbpoan.no st 1 else if Vbpoan.LASTDAY < st.day+c.toNat then Vbpoan.no st 8 else Vbpoan.yes { st with day:=st.day+c.toNat } (st.day+c.toNat) []:=rfl
  refine⟨_,rfl,c,0,1000,rfl,λh=>kE 1 _ H (es.trans (if_pos h)) ref1 (Same.refl _),λh2=>?_⟩
  rw[if_neg (λz=>by simp_all)] at es
  obtain⟨c',rfl⟩:∃k:Nat,c=(k:Int):=⟨c.toNat,by have:=zaD.mp h2;omega⟩
  rw[Int.toNat_natCast] at es
  refine⟨_,rfl,t,Ad.CT,dt,fs,_,rfl,et,T.clCT,T.t_day,F.day,_,rfl,_,_,rfl,rfl,_,_,rfl,rfl,_,rfl,ite2 (λhc=>?_) (λhc=>?_)⟩
  ·have hc:=of_decide_eq_true hc
   exact kE 8 _ H (es.trans (if_pos (by show 100000 < _;omega))) ref8 (Same.refl _)
  ·have hc:¬ (100000:Int) < (st.day:Int)+(c':Int):=λz=>hc (decide_eq_true z)
   unfold KAc at kQ
   rw[es,if_neg (by show ¬ 100000 < _;omega)] at kQ
   refine⟨_,rfl,t,Ad.CT,dt,fs,_,rfl,et,T.clCT,T.t_day,F.day,_,rfl,_,_,rfl,rfl,dt,fs,et,by have:=F.few;omega,?_⟩
   refine⟨_,rfl,t,Ad.CT,dt,_,_,rfl,za1,T.clCT,T.t_day,zal _ _ _,(by show 1≤sizeLine;decide),λa ha=>?_⟩
   have s1:Same (upd H t (.ins Ad.CT dt (putF "day" (.int ((st.day:Int)+(c':Int))) fs))) _:=za8 (o:=.lst [.int ((st.day:Int)+(c':Int))]) ha
   have ev:V.int ((st.day:Int)+(c':Int))=nat (st.day+c'):=by congr 1
   refine kQ _ a L ((zaG.comp (Same.kept _ s1)).mono t_in) zdt (TownAt.same (tw.setT T.ne1 zaG ⟨dt,_,za1,?_⟩ rfl rfl) s1) (by rw[za1,ev];rfl)
   refine⟨?_,za3 _ (by decide) F.grace,za3 _ (by decide) F.cap,za3 _ (by decide) F.points,za3 _ (by decide) F.retired,za3 _ (by decide) F.given,?_,za3 _ (by decide) F.noR⟩
   ·rw[zal,ev]
    rfl
   ·rw[zbJ _ _ _ (by rw[F.day];rfl)]
    exact F.few
def zcB:Stmt:=top 52
theorem zdb:FnScope ["town","number","load","point","load_before"] ["town","number","load"] (defScope zcB):=⟨rfl,rfl,rfl,by decide +kernel,rfl,by decide +kernel,by decide +kernel⟩
def zeA (Ad:Adr):Sp:=λvs H Q E=>∃t L s n,∃m l:Int,vs=[.ref t,.int m,.int l]∧TownAt Ad.CP Ad.CT H t L s∧Good n s∧KEx Ad H s (.load m l) E∧KAc Ad H t L s (.load m l) Q
theorem Paired.setAt {α β:Type} {R R':α→β→Prop} {f:β→β}:∀{as:List α} {bs:List β},Paired R as bs→(∀(j:Nat) a b,as[j]?=some a→bs[j]?=some b→R a b→R' a (f b))→Paired R' as (bs.map f)
 | _,_,.nil,_=>.nil
 | _,_,.cons r t,h=>.cons (h 0 _ _ rfl rfl r) (Paired.setAt t λj a b h1 h2=>h (j+1) a b h1 h2)
theorem znW {α:Type} {l:List α} {i j:Nat} {x:α} (h:l.Nodup) (hi:l[i]?=some x) (hj:l[j]?=some x):i=j:=by
 obtain⟨h1,e1⟩:=List.getElem?_eq_some_iff.mp hi
 obtain⟨h2,e2⟩:=List.getElem?_eq_some_iff.mp hj
 exact(List.getElem_inj h).mp (e1.trans e2.symm)
theorem zcF {α β:Type} {f:α→β} {l:List α} {i j:Nat} {x y:α} (h:(l.map f).Nodup) (hi:l[i]?=some x) (hj:l[j]?=some y) (e:f x=f y):i=j :=
 znW (x:=f x) h (by rw[List.getElem?_map,hi];rfl) (by rw[List.getElem?_map,hj,e];rfl)
theorem ziA (D:DefIn K mg "change_load" zcB ["town","number","load"]) (T:Txt K mg Ad) (za9:Callable P w K mg base 1 "check_range" ["number","least","greatest"] (zay Ad))
  (zar:Callable P w K mg base 2 "find_point" ["town","number"] (zbl Ad)):Callable P w K mg base 3 "change_load" ["town","number","load"] (zeA Ad):=by
 refine D.ok (k:=2) zdb (λvs H Q E h=>?_) (λf cdv A outer s H vs Q E hr h=>?_)
 ·obtain⟨t,L,s,n,m,l,rfl,_⟩:=h;rfl
 ·obtain⟨t,L,st,n,m,l,rfl,tw,G,kE,kQ⟩:=h
  refine⟨_,(za2 (zaA (pe_fn za9 (hr.mono (by decide)) rfl (passP λ_ _ _ z=>z) (za0 (pv 2) (za0 zae (za0 (zaq rfl T.zed) za4)))))
   (za2 (zah (i:=3) zdb.nd rfl (by first|exact Or.inl rfl|exact Or.inr rfl) (pe_fn zar (hr.mono (by decide)) rfl (passP λ_ _ _ z=>z) (za0 (pv 0) (za0 (pv 1) za4))))
   (za2 (zah (i:=4) zdb.nd rfl (by first|exact Or.inl rfl|exact Or.inr rfl) (zab (pv 3) rfl))
   (za2 (zc4 (pv 3) (pv 2) rfl)
   (za5 (zac (zas (za0 (pv 4) za4)))))))),?_⟩
  have es:Vbpoan.step st (.load m l)=if inside l 0 1000000=false then Vbpoan.no st 1 else onPoint st m λx=>Vbpoan.yes (setLoad st x.id l.toNat) x.load []:=rfl
  refine⟨_,rfl,l,0,1000000,rfl,λh=>kE 1 _ H (es.trans (if_pos h)) ref1 (Same.refl _),λh2=>?_⟩
  rw[if_neg (λz=>by simp_all)] at es
  obtain⟨l',rfl⟩:∃k:Nat,l=(k:Int):=⟨l.toNat,by have:=zaD.mp h2;omega⟩
  rw[Int.toNat_natCast] at es
  refine⟨_,rfl,_,rfl,t,L,st,m,rfl,tw,λh=>kE 1 _ H (es.trans (zkz h)) ref1 (Same.refl _),λh h2=>kE 4 _ H (es.trans (zhz h h2)) ref4 (Same.refl _),λj x p hin hx hp hpo hid=>?_⟩
  obtain⟨p',hp',dx,fs,e,F⟩:=Paired.get1 tw.pts.pt hx
  rw[hp] at hp'
  cases hp'
  unfold KAc at kQ
  rw[es,zhy hin hpo] at kQ
  refine⟨_,rfl,x.1,Ad.CP,dx,fs,_,rfl,e,T.clCP,T.zfw,F.load,?_⟩
  refine⟨_,rfl,_,rfl,x.1,Ad.CP,dx,fs,rfl,e,T.clCP,T.zfw,by have:=F.few;omega,?_⟩
  refine⟨_,rfl,(by show 1≤sizeLine;decide),λa ha=>?_⟩
  have s1:Same (upd H x.1 (.ins Ad.CP dx (putF "load" (nat l') fs))) _:=za8 (o:=.lst [nat p.load]) ha
  have kx:Kept [x.1] H (upd H x.1 (.ins Ad.CP dx (putF "load" (nat l') fs))):=zaG
  have hxm:x∈L.ps:=List.mem_of_getElem? hx
  have k2:Kept (L.ps.map (·.1)++L.ps.map (·.2)) H (upd H x.1 (.ins Ad.CP dx (putF "load" (nat l') fs))):=kx.mono λb hb=>by
   rw[List.mem_singleton.mp hb];exact List.mem_append_left _ (List.mem_map.mpr ⟨x,hxm,rfl⟩)
  have hS:∀b∈[x.1],∀xs,H b≠some (.tup xs):=λb hb xs=>by rw[List.mem_singleton.mp hb,e];exact λz=>nomatch z
  refine kQ _ a L ((k2.comp (Same.kept _ s1)).mono λb hb=>List.mem_cons_of_mem _ (List.mem_cons_of_mem _ (List.mem_cons_of_mem _ hb))) zdt
   (TownAt.same (tw.setPts T.ne1 k2 (Paired.setAt tw.pts.pt λi y q hy hq r=>?_) (Paired.setAt tw.had λi y q hy hq r=>?_)) s1) za1
  ·by_cases ei:i=j
   ·subst ei
    rw[hx] at hy
    rw[hp] at hq
    cases hy
    cases hq
    rw[if_pos rfl]
    refine⟨dx,_,za1,za3 _ (by decide) F.number,zal _ _ _,za3 _ (by decide) F.code,za3 _ (by decide) F.since,za3 _ (by decide) F.had,?_⟩
    rw[zbJ _ _ _ (by rw[F.load];rfl)]
    exact F.few
   ·rw[if_neg λz=>ei (zcF G.ids hq hp z)]
    refine PtAt.kept r kx ?_
    rw[List.mem_singleton]
    exact λz=>ei (zcF tw.nd1 hy hx z)
  ·have eo:(if q.id=p.id then { q with load:=l' } else q).olds=q.olds:=by split<;>rfl
   rw[eo]
   refine r.kept kx ?_ hS
   rw[List.mem_singleton]
   intro z
   rw[←z] at e
   obtain⟨xs,z2⟩:=r.is e
   cases z2
end
end Pd
end
section
namespace Pd
open PySem PySem.Spec PyProof.Rows L2
open Vbpoan (State Point Old Retired codesOf loadsOf isFree pointOf inside spread nsum onPoint)
open VbpoanNeutral (flat)
theorem mem_mid {α:Type} {l:List α} {k:Nat} {x b:α} (h:b∈l.take k++x::l.drop k):b=x∨b∈l:=by
 rcases List.mem_append.mp h with z|z
 ·exact .inr (List.mem_of_mem_take z)
 ·rcases List.mem_cons.mp z with z|z
  ·exact .inl z
  ·exact .inr (List.mem_of_mem_drop z)
theorem zhU {α β:Type} (f:α→β) (l:List α) (k:Nat) (x:α):(l.take k++x::l.drop k).map f=(l.map f).take k++f x::(l.map f).drop k:=by
 rw[List.map_append,List.map_cons,List.map_take,List.map_drop]
theorem zkJ {α:Type} {l:List α} {k:Nat} {x:α} (h:l.Nodup) (hx:x∉l):(l.take k++x::l.drop k).Nodup:=by
 rw[List.perm_middle.nodup_iff,List.take_append_drop,List.nodup_cons]
 exact⟨hx,h⟩
section
variable {P:Program} {w:World} {K:PySem.W.Frag} {mg:Str→Option Value} {base:Heap} {Ad:Adr}
def zbW:Stmt:=top 50
theorem zgR:FnScope ["points","place"] ["points","place"] (defScope zbW):=⟨rfl,rfl,rfl,by decide +kernel,rfl,by decide +kernel,by decide +kernel⟩
def codeAt (cs:List Nat) (k:Nat):Nat:=if k=0 then cs.headD 0 else cs.getD (k - 1) 0
def zdP (CP:Addr):Sp:=λvs H Q _=>∃pl as pts,∃k:Nat,vs=[.ref pl,nat k]∧PtsAt CP H pl as pts∧k≤pts.length∧Q (nat (codeAt (pts.map (·.code)) k)) H
theorem zgW (D:DefIn K mg "code_at_place" zbW ["points","place"]) (T:Txt K mg Ad):Callable P w K mg base 1 "code_at_place" ["points","place"] (zdP Ad.CP):=by
 refine D.ok (k:=0) zgR (λvs H Q E h=>?_) (λf cdv A outer s H vs Q E hr h=>?_)
 ·obtain⟨pl,as,pts,k,rfl,_⟩:=h;rfl
 ·obtain⟨pl,as,pts,k,rfl,hp,hk,hq⟩:=h
  have hl:=hp.len
  refine⟨_,(za2 (ps_if (zkp (zpi (pv 0) (λ_=>rfl))) (za5 (zac (zaq rfl T.zc2))) zag)
   (za2 (ps_if (zaf op_eq (pv 1) zae (nomark _)) (za5 (zac (zab (pe_ix zcS (pv 0) zae (λ_ _=>rfl)) rfl))) zag)
   (za5 (zac (zab (pe_ix zcS (pv 0) (pe_op zgK (pv 1) zae) (λ_ _=>rfl)) rfl))))),?_⟩
  refine⟨_,rfl,_,.inl ⟨_,SqL.of hp.lst,rfl⟩,ite2 (λhc=>?_) (λhc=>?_)⟩
  ·cases as with
   | cons a as=>simp at hc
   | nil =>
    cases pts with
    | cons p pts=>simp at hl
    | nil =>
     have e:codeAt (([]:List Point).map (·.code)) k=0:=by unfold codeAt;split<;>rfl
     rw[e] at hq
     exact hq
  ·cases as with
   | nil=>simp at hc
   | cons a as =>
    cases pts with
    | nil=>simp at hl
    | cons p pts =>
     refine⟨_,rfl,rfl,_,rfl,ite2 (λh0=>?_) (λh0=>?_)⟩
     ·have h0:=zaQ (b:=0).mp h0
      subst h0
      obtain⟨p',hp',dx,fs,e,F⟩:=Paired.get1 (i:=0) hp.pt rfl
      cases hp'
      exact⟨_,rfl,pl,_,0,_,rfl,rfl,SqL.of hp.lst,zkb (j:=0) rfl,a.1,Ad.CP,dx,fs,_,rfl,e,T.clCP,T.zb2,F.code,hq⟩
     ·have h0:¬ k=0:=λz=>h0 (zaQ (b:=0).mpr z)
      obtain⟨k,rfl⟩:∃j,k=j+1:=⟨k - 1,by omega⟩
      have hlt:k < (p::pts).length:=by omega
      obtain⟨x,hx,dx,fs,e,F⟩:=Paired.get2 (i:=k) hp.pt (List.getElem?_eq_getElem hlt)
      have ek:((k+1:Nat):Int) - 1=(k:Int):=by omega
      refine⟨_,rfl,_,rfl,_,_,rfl,rfl,pl,_,(k:Int),.ref x.1,rfl,congrArg V.int ek,SqL.of hp.lst,zkb (by rw[List.getElem?_map,hx];rfl),x.1,Ad.CP,dx,fs,_,rfl,e,T.clCP,T.zb2,F.code,?_⟩
      have e2:codeAt ((p::pts).map (·.code)) (k+1)=(p::pts)[k].code:=by
       unfold codeAt
       rw[if_neg (by omega),Nat.add_sub_cancel,List.getD_eq_getElem?_getD,List.getElem?_map,List.getElem?_eq_getElem hlt]
       rfl
      rw[e2] at hq
      exact hq
def zdC:Stmt:=top 51
theorem zgD:FnScope ["town","place","load","code"] ["town","place","load"] (defScope zdC):=⟨rfl,rfl,rfl,by decide +kernel,rfl,by decide +kernel,by decide +kernel⟩
def zgx (Ad:Adr):Sp:=λvs H Q E=>∃t L s n,∃m l:Int,vs=[.ref t,.int m,.int l]∧TownAt Ad.CP Ad.CT H t L s∧Good n s∧KEx Ad H s (.point m l) E∧KAc Ad H t L s (.point m l) Q
theorem zkF (D:DefIn K mg "put_point" zdC ["town","place","load"]) (T:Txt K mg Ad) (za9:Callable P w K mg base 1 "check_range" ["number","least","greatest"] (zay Ad))
  (zcV:Callable P w K mg base 1 "code_at_place" ["points","place"] (zdP Ad.CP)) (zlK:MakesIn P w K mg base 1 Ad.CP ["self","number","load","code","since"] (zmg Ad.CP)) :
  Callable P w K mg base 3 "put_point" ["town","place","load"] (zgx Ad):=by
 refine D.ok (k:=2) zgD (λvs H Q E h=>?_) (λf cdv A outer s H vs Q E hr h=>?_)
 ·obtain⟨t,L,s,n,m,l,rfl,_⟩:=h;rfl
 ·obtain⟨t,L,st,n,m,l,rfl,tw,G,kE,kQ⟩:=h
  have line:sizeLine=16777216:=sizeLine_eq
  obtain⟨dt,fs,et,F⟩:=tw.tw
  have hlp:=tw.pts.len
  refine⟨_,(za2 (zaA (pe_fn za9 (hr.mono (by decide)) rfl (passP λ_ _ _ z=>z) (za0 (pv 1) (za0 zae (za0 (zai zaa rfl T.b_len PySem.boot_len (za0 (zab (pv 0) rfl) za4)) za4)))))
   (za2 (zaA (pe_fn za9 (hr.mono (by decide)) rfl (passP λ_ _ _ z=>z) (za0 (pv 2) (za0 zae (za0 (zaq rfl T.zed) za4)))))
   (za2 (ps_if (PW.pt (pw_or (zaf op_eq (zai zaa rfl T.b_len PySem.boot_len (za0 (zab (pv 0) rfl) za4)) (zaq rfl T.zk2) (nomark _)) (zhv (zaf op_eq (zab (pv 0) rfl) (zaq rfl T.zdu) (nomark _))))) (za5 (zd8 rfl T.zej T.zgd)) zag)
   (za2 (zah (i:=3) zgD.nd rfl (by first|exact Or.inl rfl|exact Or.inr rfl) (pe_fn zcV (hr.mono (by decide)) rfl passN (za0 (zab (pv 0) rfl) (za0 (pv 1) za4))))
   (za2 (zfu (pv 0) zae zmt)
   (za2 (zaA (pe_bm PySem.F.plainAttrs_list PySem.F.slot_list_insert PySem.F.type_list_insert znZ (zab (pv 0) rfl) (za0 (pv 1) (za0 (pe_mk zlK (hr.mono (by decide)) rfl T.mgPoint passN (za0 (zab (pv 0) rfl) (za0 (pv 2) (za0 (pv 3) (za0 (zab (pv 0) rfl) za4))))) za4))))
   (za5 (zac (zas (za0 (zab (pv 0) rfl) za4)))))))))),?_⟩
  have es:Vbpoan.step st (.point m l)=if inside m 0 (st.points.length:Int)=false∨inside l 0 1000000=false then Vbpoan.no st 1 else if Vbpoan.POINTS≤st.points.length∨1000000 < st.next then Vbpoan.no st 8 else Vbpoan.yes (putAt st m.toNat l.toNat) st.next []:=rfl
  have elen:((L.ps.map λx=>V.ref x.1).length:Int)=(st.points.length:Int):=by rw[List.length_map,hlp]
  refine⟨_,rfl,_,rfl,t,Ad.CT,dt,fs,_,rfl,et,T.clCT,T.zap,F.points,L.pl,_,rfl,.inl (SqL.of tw.pts.lst),m,0,_,rfl,?_,?_⟩
  ·rw[elen]
   exact λh=>kE 1 _ H (es.trans (if_pos (.inl h))) ref1 (Same.refl _)
  rw[elen]
  intro h1
  refine⟨_,rfl,l,0,1000000,rfl,λh=>kE 1 _ H (es.trans (if_pos (.inr h))) ref1 (Same.refl _),λh2=>?_⟩
  rw[if_neg (λz=>by rcases z with z|z<;>simp_all)] at es
  obtain⟨k,rfl⟩:∃k:Nat,m=(k:Int):=⟨m.toNat,by have:=zaD.mp h1;omega⟩
  obtain⟨l',rfl⟩:∃k:Nat,l=(k:Int):=⟨l.toNat,by have:=zaD.mp h2;omega⟩
  have hk:k≤st.points.length:=by have:=zaD.mp h1;omega
  rw[Int.toNat_natCast,Int.toNat_natCast] at es
  refine⟨_,rfl,t,Ad.CT,dt,fs,_,rfl,et,T.clCT,T.zap,F.points,L.pl,_,rfl,.inl (SqL.of tw.pts.lst),rfl,_,rfl,ite2 (λhc=>?_) (λhc=>?_)⟩
  ·refine iteT (kE 8 _ H (es.trans (if_pos (.inl ?_))) ref8 (Same.refl _))
   have hc:=of_decide_eq_true hc
   injection hc with hc
   show 40≤_
   omega
  have hc:¬ st.points.length=40:=λz=>hc (decide_eq_true (by rw[elen,z];rfl))
  refine⟨_,rfl,t,Ad.CT,dt,fs,_,rfl,et,T.clCT,T.zfR,F.given,rfl,_,rfl,ite2 (λhd=>?_) (λhd=>?_)⟩
  ·refine kE 8 _ H (es.trans (if_pos (.inr ?_))) ref8 (Same.refl _)
   have hd:=of_decide_eq_true hd
   injection hd with hd
   omega
  have hd:¬ st.next=1000001:=λz=>hd (decide_eq_true (by rw[z];rfl))
  have h40:=G.len
  have hnx:=G.nxt
  unfold KAc at kQ
  rw[es,if_neg (by show ¬ (40≤_∨_);omega)] at kQ
  refine⟨_,rfl,t,Ad.CT,dt,fs,_,rfl,et,T.clCT,T.zap,F.points,_,rfl,L.pl,L.ps,st.points,k,rfl,tw.pts,hk,?_⟩
  refine⟨_,rfl,t,Ad.CT,dt,fs,_,rfl,et,T.clCT,T.zfR,F.given,_,_,rfl,rfl,dt,fs,et,by have:=F.few;omega,?_⟩
  have en:(st.next:Int) - 1+1=(st.next:Int):=by omega
  rw[en]
  generalize hfs:putF "numbers_given" (nat st.next) fs=fs1
  have F1:TownF fs1 (putAt st k l') L.pl L.rl:=by
   subst hfs
   refine⟨za3 _ (by decide) F.day,za3 _ (by decide) F.grace,za3 _ (by decide) F.cap,za3 _ (by decide) F.points,za3 _ (by decide) F.retired,?_,?_,za3 _ (by decide) F.noR⟩
   ·rw[zal]
    show some (V.int (st.next:Int))=some (V.int (((st.next+1:Nat):Int) - 1))
    congr 2
    omega
   ·rw[zbJ _ _ _ (by rw[F.given];rfl)]
    exact F.few
  have npt:L.pl≠t:=zjL tw.tw tw.pts.lst
  have hpl1:upd H t (.ins Ad.CT dt fs1) L.pl=some (.lst (L.ps.map λx=>V.ref x.1)):=by rw[za6 npt];exact tw.pts.lst
  have g1:fs1.lookup ("numbers_given":Str)=some (nat st.next):=by subst hfs;exact zal _ _ _
  refine⟨_,rfl,t,Ad.CT,dt,fs1,_,rfl,za1,T.clCT,T.zap,F1.points,.inl ⟨rfl,_,SqL.of hpl1⟩,_,rfl,
   _,rfl,t,Ad.CT,dt,fs1,_,rfl,za1,T.clCT,T.zfR,g1,_,rfl,_,rfl,_,rfl,t,Ad.CT,dt,fs1,_,rfl,za1,T.clCT,T.t_day,F1.day,λx dx hx hdx ndx=>?_⟩
  refine⟨x,dx,st.next,l',codeAt (codesOf st) k,st.day,rfl,za1,λH3 h k3 hh pt hl3=>⟨rfl,?_⟩⟩
  have ntx:t≠x:=λz=>by rw[←z,za1] at hx;cases hx
  have ntd:t≠dx:=λz=>by rw[←z,za1] at hdx;cases hdx
  have hx0:H x=none:=by rw[za6 (Ne.symm ntx)] at hx;exact hx
  have hd0:H dx=none:=by rw[za6 (Ne.symm ntd)] at hdx;exact hdx
  have nhx:h≠x:=λz=>by rw[z,za1] at hh;cases hh
  rw[za6 nhx] at hh
  have nhd:h≠dx:=λz=>by rw[z,za1] at hh;cases hh
  rw[za6 nhd] at hh
  have nht:h≠t:=λz=>by rw[z,za1] at hh;cases hh
  have hh0:H h=none:=by rw[za6 nht] at hh;exact hh
  have kA:Kept [t] H H3:=λb o e hb=>by
   have nb:b≠t:=by simpa using hb
   refine k3 _ _ ?_ (by simpa using za7 e hx0)
   rw[za6 (za7 e hx0),za6 (za7 e hd0),za6 nb]
   exact e
  have e3t:H3 t=some (.ins Ad.CT dt fs1):=k3 _ _ (by rw[za6 ntx,za6 ntd,za1]) (by simpa using ntx)
  have e3p:H3 L.pl=some (.lst (L.ps.map λx=>V.ref x.1)):=kA _ _ tw.pts.lst (by simpa using npt)
  refine⟨L.pl,_,.ref x,_,k,rfl,rfl,rfl,e3p,by rw[List.length_map,hlp];exact hk,by rw[List.length_map,hlp];omega,?_⟩
  have e4t:upd H3 L.pl (.lst ((L.ps.map λx=>V.ref x.1).take k++.ref x::(L.ps.map λx=>V.ref x.1).drop k)) t=some (.ins Ad.CT dt fs1):=by rw[za6 (Ne.symm npt)];exact e3t
  refine⟨_,rfl,t,Ad.CT,dt,fs1,_,rfl,e4t,T.clCT,T.zfR,g1,(by show 1≤sizeLine;decide),λa ha=>?_⟩
  have s5:Same (upd H3 L.pl (.lst ((L.ps.map λx=>V.ref x.1).take k++.ref x::(L.ps.map λx=>V.ref x.1).drop k))) _:=za8 (o:=.lst [nat st.next]) ha
  have kB:Kept [t,L.pl] H (upd H3 L.pl (.lst ((L.ps.map λx=>V.ref x.1).take k++.ref x::(L.ps.map λx=>V.ref x.1).drop k))):=λb o e hb=>by
   have hb:b≠t∧b≠L.pl:=by simpa using hb
   rw[za6 hb.2]
   exact kA _ _ e (by simpa using hb.1)
  have hS:∀b∈[t,L.pl],∀xs,H b≠some (.tup xs):=λb hb xs=>by
   rcases List.mem_cons.mp hb with z|z
   ·rw[z,et];exact λz=>nomatch z
   ·rw[List.mem_singleton.mp z,tw.pts.lst];exact λz=>nomatch z
  obtain⟨n1,n2⟩:=tw.pl_ne
  have nxp:x≠L.pl:=λz=>by rw[z,tw.pts.lst] at hx0;cases hx0
  have nhp:h≠L.pl:=λz=>by rw[z,tw.pts.lst] at hh0;cases hh0
  have f1:∀y∈L.ps,y.1≠x:=λy hy z=>by
   obtain⟨p,_,dx',fs',e,_⟩:=Paired.mem1 tw.pts.pt hy
   rw[z,hx0] at e;cases e
  have f2:∀y∈L.ps,y.2≠h:=λy hy z=>by
   obtain⟨p,_,ts,e,_⟩:=Paired.mem1 tw.had hy
   rw[z,hh0] at e;cases e
  have tw4:TownAt Ad.CP Ad.CT (upd H3 L.pl (.lst ((L.ps.map λx=>V.ref x.1).take k++.ref x::(L.ps.map λx=>V.ref x.1).drop k))) t ⟨L.pl,L.rl,L.ps.take k++(x,h)::L.ps.drop k⟩ (putAt st k l'):=by
   have ptq:Paired (λy p=>PtAt Ad.CP (upd H3 L.pl (.lst ((L.ps.map λx=>V.ref x.1).take k++.ref x::(L.ps.map λx=>V.ref x.1).drop k))) y.1 y.2 p) L.ps st.points:=Paired.imp' (λy p q=>PtAt.kept q kB λhb=>by
    rcases List.mem_cons.mp hb with z|z
    ·exact tw.zfU T.ne1 q z
    ·obtain⟨_,_,z2⟩:=q.is (by rw[List.mem_singleton.mp z];exact tw.pts.lst)
     cases z2) tw.pts.pt
   have hadq:Paired (λy (p:Point)=>RowsAt (upd H3 L.pl (.lst ((L.ps.map λx=>V.ref x.1).take k++.ref x::(L.ps.map λx=>V.ref x.1).drop k))) y.2 (p.olds.map oldV)) L.ps st.points:=Paired.memL tw.had λy hy p _ q=>RowsAt.kept q kB (λhb=>by
    rcases List.mem_cons.mp hb with z|z
    ·exact zcl tw.tw q z
    ·exact(n2 y hy).1 (List.mem_singleton.mp z)) hS
   refine⟨⟨dt,fs1,e4t,F1⟩,⟨by rw[za1,zhU],Paired.app (Paired.tk k ptq) (.cons ?_ (Paired.dr k ptq))⟩,Paired.app (Paired.tk k hadq) (.cons ⟨[],by show upd _ _ _ h=_;rw[za6 nhp,hl3];rfl,.nil⟩ (Paired.dr k hadq)),?_,?_,?_⟩
   ·obtain⟨dx',fs',e,F'⟩:=pt
    exact⟨dx',fs',by show upd _ _ _ x=_;rw[za6 nxp];exact e,F'⟩
   ·exact tw.ret.kept kB (λhb=>by
     rcases List.mem_cons.mp hb with z|z
     ·exact zcl tw.tw tw.ret z
     ·exact n1 (List.mem_singleton.mp z).symm) hS
   ·rw[zhU]
    refine zkJ tw.nd1 λhm=>?_
    obtain⟨y,hy,z⟩:=List.mem_map.mp hm
    exact f1 y hy z
   ·have hnd:=tw.nd2
    have hnh:h∉L.pl::L.rl::L.ps.map (·.2):=λhm=>by
     rcases List.mem_cons.mp hm with z|z
     ·exact nhp z
     ·rcases List.mem_cons.mp z with z|z
      ·obtain⟨ts,e,_⟩:=tw.ret
       rw[←z,hh0] at e;cases e
      ·obtain⟨y,hy,z⟩:=List.mem_map.mp z
       exact f2 y hy z
    have:=zkJ (k:=k+2) hnd hnh
    show (L.pl::L.rl::(L.ps.take k++(x,h)::L.ps.drop k).map (·.2)).Nodup
    rw[zhU]
    exact this
  refine kQ _ a ⟨L.pl,L.rl,L.ps.take k++(x,h)::L.ps.drop k⟩ ((kB.comp (Same.kept _ s5)).mono λb hb=>?_) (λb hb=>?_) (tw4.same s5) za1
  ·rcases List.mem_cons.mp hb with z|z
   ·rw[z];exact List.mem_cons_self
   ·rw[List.mem_singleton.mp z];exact List.mem_cons_of_mem _ List.mem_cons_self
  ·have hb:b=t∨b=L.pl∨b=L.rl∨b∈(L.ps.take k++(x,h)::L.ps.drop k).map (·.1)∨b∈(L.ps.take k++(x,h)::L.ps.drop k).map (·.2):=by
    simpa only[Lay.foot,List.mem_cons,List.mem_append] using hb
   rw[zhU,zhU] at hb
   rcases hb with z|z|z|z|z
   ·rw[z];exact .inl List.mem_cons_self
   ·rw[z];exact .inl (List.mem_cons_of_mem _ List.mem_cons_self)
   ·rw[z];exact .inl (List.mem_cons_of_mem _ (List.mem_cons_of_mem _ List.mem_cons_self))
   ·rcases mem_mid z with z|z
    ·rw[z];exact .inr hx0
    ·exact .inl (List.mem_cons_of_mem _ (List.mem_cons_of_mem _ (List.mem_cons_of_mem _ (List.mem_append_left _ z))))
   ·rcases mem_mid z with z|z
    ·rw[z];exact .inr hh0
    ·exact .inl (List.mem_cons_of_mem _ (List.mem_cons_of_mem _ (List.mem_cons_of_mem _ (List.mem_append_right _ z))))
end
end Pd
end
section
namespace Pd
open PySem PySem.Spec PyProof.Rows L2
open Vbpoan (State Point Old Retired codesOf loadsOf isFree pointOf inside spread nsum onPoint)
open VbpoanNeutral (flat)
theorem Paired.filt {α β:Type} {R:α→β→Prop} (p:β→Bool):∀{as:List α} {bs:List β},Paired R as bs→Paired R (((as.zip bs).filter λy=>p y.2).map (·.1)) (bs.filter p)
 | _,_,.nil=>.nil
 | _,_,.cons (b:=b) r t=>by
  rw[List.zip_cons_cons,List.filter_cons,List.filter_cons]
  cases q:p b with
  | true=>exact .cons r (Paired.filt p t)
  | false=>exact Paired.filt p t
theorem ziv {α β:Type} (f:α×β→Bool) {as:List α} {bs:List β} (h:as.length=bs.length):(((as.zip bs).filter f).map (·.1)).Sublist as:=by
 have h1:((as.zip bs).map (·.1))=as:=List.map_fst_zip (by omega)
 conv=>rhs;rw[←h1]
 exact List.Sublist.map _ List.filter_sublist
theorem Paired.ofGet {α β:Type} {R:α→β→Prop}:∀{as:List α} {bs:List β},as.length=bs.length→(∀(j:Nat) a b,as[j]?=some a→bs[j]?=some b→R a b)→Paired R as bs
 | [],[],_,_=>.nil
 | a::as,b::bs,h,f=>.cons (f 0 a b rfl rfl) (Paired.ofGet (by simpa using h) λj a b h1 h2=>f (j+1) a b h1 h2)
theorem zqB {K:PySem.W.Frag} {a b:Addr} {xs zs:List V} {g:TG} {tb:TS} {D:Ends} {σ:L2.St} {H:Hp} (n:Nat) (hn:n=min xs.length zs.length) (Pv:Nat→L2.St→Hp→Prop) (h0:Pv 0 σ H) (hl:∀i σ H,i≤n→Pv i σ H→SqL K H a xs∧SqL K H b zs)
  (hs:∀(i:Nat) x z T σ H,xs[i]?=some x→zs[i]?=some z→H T=none→Pv i σ H→g (.ref T) σ (upd H T (.tup [x,z])) λσ2 H2=>tb { D with nx:=Pv (i+1),ct:=Pv (i+1),bk:=D.nx } σ2 H2) (hd:∀σ H,Pv n σ H→D.nx σ H) :
  ∃W:Nat→Nat→L2.St→Hp→Prop,(∃m,W 0 m σ H)∧∀i m σ H,W i m σ H→
   ((Itz K a b).stop i H∧D.nx σ H)∨((Itz K a b).go i H∧∃N:L2.St→Hp→Prop,(∀σ' H',N σ' H'→∃m',m' < m∧W (i+1) m' σ' H')∧∀x H',(Itz K a b).yld i H x H'→g x σ H' λσ2 H2=>tb { D with nx:=N,ct:=N,bk:=D.nx } σ2 H2):=by
 refine⟨λi m σ H=>m=n - i∧i≤n∧Pv i σ H,⟨n,by simp,Nat.zero_le _,h0⟩,?_⟩
 rintro i m σ H ⟨rfl,hi,p⟩
 obtain⟨q1,q2⟩:=hl i σ H hi p
 by_cases hlt:i < n
 ·refine .inr ⟨⟨xs,zs,xs[i]'(by omega),zs[i]'(by omega),q1,q2,List.getElem?_eq_getElem _,List.getElem?_eq_getElem _⟩,Pv (i+1),λσ' H' p'=>⟨n - (i+1),by omega,rfl,hlt,p'⟩,λx H' y=>?_⟩
  obtain⟨T,x',z',rfl,hT,rfl,h1,h2⟩:=y
  exact hs i x' z' T σ H (h1 xs q1) (h2 zs q2) hT p
 ·have e:i=n:=by omega
  subst e
  exact .inl ⟨⟨xs,zs,q1,q2,by omega⟩,hd σ H p⟩
section
variable {P:Program} {w:World} {K:PySem.W.Frag} {mg:Str→Option Value} {base:Heap} {Ad:Adr}
def zbA:Stmt:=top 53
theorem zbj:FnScope ["town","number","gone","codes_before","point"] ["town","number"] (defScope zbA):=⟨rfl,rfl,rfl,by decide +kernel,rfl,by decide +kernel,by decide +kernel⟩
theorem zfK:BlkOk ["town","number","gone","codes_before","point"] (defScope zbA) { kind:=.function,names:=[(PySem.Str.ofString ".0",.local),(PySem.Str.ofString "point",.local),(PySem.Str.ofString "number",.free)],isGenerator:=false,isCoroutine:=false,more:=[] } [("point",4)]:=⟨rfl,by decide +kernel,by decide +kernel,by decide +kernel,by decide +kernel⟩
def ze1 (Ad:Adr):Sp:=λvs H Q E=>∃t L s n,∃m:Int,vs=[.ref t,.int m]∧TownAt Ad.CP Ad.CT H t L s∧Good n s∧n≤401∧KEx Ad H s (.remove m) E∧KAc Ad H t L s (.remove m) Q
theorem zhE (D:DefIn K mg "remove_point" zbA ["town","number"]) (T:Txt K mg Ad) (zar:Callable P w K mg base 2 "find_point" ["town","number"] (zbl Ad))
  (zav:Callable P w K mg base 1 "codes_of" ["points"] (zbM Ad.CP)) (zbe:Callable P w K mg base 2 "retire_codes" ["town","codes_before"] (zcL Ad.CP Ad.CT)) :
  Callable P w K mg base 3 "remove_point" ["town","number"] (ze1 Ad):=by
 refine D.ok (k:=2) zbj (λvs H Q E h=>?_) (λf cdv A outer s H vs Q E hr h=>?_)
 ·obtain⟨t,L,s,n,m,rfl,_⟩:=h;rfl
 ·obtain⟨t,L,st,n,m,rfl,tw,G,hn,kE,kQ⟩:=h
  have line:sizeLine=16777216:=sizeLine_eq
  obtain⟨dt,fs,et,F⟩:=tw.tw
  have hlp:=tw.pts.len
  have h40:=G.len
  refine⟨_,(za2 (zah (i:=2) zbj.nd rfl (by first|exact Or.inl rfl|exact Or.inr rfl) (pe_fn zar (hr.mono (by decide)) rfl (passP λ_ _ _ z=>z) (za0 (pv 0) (za0 (pv 1) za4))))
   (za2 (zah (i:=3) zbj.nd rfl (by first|exact Or.inl rfl|exact Or.inr rfl) (pe_fn zav (hr.mono (by decide)) rfl passN (za0 (zab (pv 0) rfl) za4)))
   (za2 (zc4 (pv 0) (pe_lc rfl zbj.nd (zaE (zab (pv 0) rfl)) zfK (λ_ _ _ _ _=>by exact(zaj (i:=4) zbj.nd rfl (by first|exact Or.inl rfl|exact Or.inr rfl))) (λ_ _ _ _ _=>by exact zeN (zaf op_ne (zdG (K:=K) rfl (pv 4) rfl) (pv 1) (nomark _))) (λ_ _ _ _ _=>by exact(pv 4))) rfl)
   (za2 (zaA (pe_fn zbe (hr.mono (by decide)) rfl passN (za0 (pv 0) (za0 (pv 3) za4))))
   (za5 (zac (zas (za0 (zab (pv 2) rfl) za4)))))))),?_⟩
  refine⟨_,rfl,_,rfl,t,L,st,m,rfl,tw,λh=>kE 1 _ H (zkz h) ref1 (Same.refl _),λh h2=>kE 4 _ H (zhz h h2) ref4 (Same.refl _),λj x p hin hx hp hpo hid=>?_⟩
  have es:Vbpoan.step st (.remove m)=Vbpoan.yes (Vbpoan.retire (takeOut st p.id) (codesOf st)) p.code []:=zhy hin hpo
  unfold KAc at kQ
  rw[es] at kQ
  obtain⟨p',hp',dx,fp,e,FP⟩:=Paired.get1 tw.pts.pt hx
  rw[hp] at hp'
  cases hp'
  refine⟨_,rfl,t,Ad.CT,dt,fs,_,rfl,et,T.clCT,T.zap,F.points,L.pl,L.ps,st.points,rfl,tw.pts,h40,λH1 cb s1 n1 hcb=>?_⟩
  have hys:(L.ps.zip st.points).length=st.points.length:=by rw[List.length_zip,hlp,Nat.min_self]
  refine⟨_,rfl,t,Ad.CT,dt,fs,_,rfl,s1 _ _ et,T.clCT,T.zap,F.points,L.pl,rfl,⟨_,SqL.of (s1 _ _ tw.pts.lst)⟩,ze5 (K:=K) (a:=L.pl) (xs:=L.ps.map λx=>V.ref x.1) (L.ps.zip st.points) (λy=>if (y.2.id != p.id)=true then some (V.ref y.1.1) else none) (SqL.of (s1 _ _ tw.pts.lst)) (by rw[List.length_map,hys,hlp]) (by omega) ?_ ?_⟩
  ·intro i z y hz hy H' s2 R hR
   obtain⟨b,hb,rfl⟩:=pt_at hz
   obtain⟨h1,h2,dy,fy,ey,FY⟩:=Paired.zip_get tw.pts.pt hy
   rw[hb] at h1
   cases h1
   have hR:=hR H' (Same.refl _)
   refine⟨rfl,⟨_,rfl,y.1.1,Ad.CP,dy,fy,_,rfl,s2 _ _ (s1 _ _ ey),T.clCP,T.zfv,FY.number,_,rfl,rfl,_,rfl,ite2 (λhc=>?_) (λhc=>?_)⟩⟩
   ·rw[if_pos (by
     rw[bne_iff_ne]
     intro z
     rw[←hid,z] at hc
     simp at hc)] at hR
    exact⟨_,rfl,hR⟩
   ·rw[if_neg (λz=>hc (by
     have z:=bne_iff_ne.mp z
     rw[←hid]
     have:¬ V.int (y.2.id:Int)=V.int (p.id:Int):=λq=>by injection q with q;omega
     rw[decide_eq_false this]
     rfl))] at hR
    exact hR
  ·intro H2 q s2 n2 hq
   rw[fm_if (λy:(Addr×Addr)×Point=>y.2.id != p.id) (λy=>V.ref y.1.1)] at hq
   have sH2:Same H H2:=Same.trans s1 s2
   have hq0:H q=none:=s1.free n2
   refine⟨_,rfl,t,Ad.CT,dt,fs,rfl,sH2 _ _ et,T.clCT,T.zap,by have:=F.few;omega,?_⟩
   generalize hps:((L.ps.zip st.points).filter λy=>y.2.id != p.id).map (·.1)=ps'
   have hsub:ps'.Sublist L.ps:=by rw[←hps];exact ziv _ hlp
   have hq':H2 q=some (.lst (ps'.map λy=>V.ref y.1)):=by
    rw[hq,←hps,List.map_map]
    rfl
   have nqt:q≠t:=λz=>by rw[z,et] at hq0;cases hq0
   obtain⟨n3,n4⟩:=tw.pl_ne
   have tw3:TownAt Ad.CP Ad.CT (upd H2 t (.ins Ad.CT dt (putF "points" (.ref q) fs))) t ⟨q,L.rl,ps'⟩ (takeOut st p.id):=by
    have tw2:=tw.same sH2
    have kt:Kept [t] H2 (upd H2 t (.ins Ad.CT dt (putF "points" (.ref q) fs))):=zaG
    have hS:∀b∈[t],∀xs,H2 b≠some (.tup xs):=λb hb=>by rw[List.mem_singleton.mp hb];exact tw2.tw.notTup
    refine⟨⟨dt,_,za1,?_⟩,⟨by rw[za6 nqt];exact hq',?_⟩,?_,?_,tw.nd1.sublist (hsub.map _),?_⟩
    ·refine⟨za3 _ (by decide) F.day,za3 _ (by decide) F.grace,za3 _ (by decide) F.cap,zal _ _ _,za3 _ (by decide) F.retired,za3 _ (by decide) F.given,?_,za3 _ (by decide) F.noR⟩
     rw[zbJ _ _ _ (by rw[F.points];rfl)]
     exact F.few
    ·rw[←hps]
     exact Paired.filt (λy:Point=>y.id != p.id) (Paired.imp' (λy r g=>PtAt.kept g kt (by simpa using tw2.zfU T.ne1 g)) tw2.pts.pt)
    ·rw[←hps]
     exact Paired.filt (λy:Point=>y.id != p.id) (Paired.imp' (λy r g=>RowsAt.kept g kt (by simpa using zcl tw2.tw g) hS) tw2.had)
    ·exact tw2.ret.kept kt (by simpa using zcl tw2.tw tw2.ret) hS
    ·have hnd:=tw.nd2
     rw[List.nodup_cons,List.nodup_cons] at hnd
     have hs2:(ps'.map (·.2)).Sublist (L.ps.map (·.2)):=hsub.map _
     show (q::L.rl::ps'.map (·.2)).Nodup
     rw[List.nodup_cons,List.nodup_cons]
     refine⟨λhm=>?_,λhm=>hnd.2.1 (hs2.subset hm),hnd.2.2.sublist hs2⟩
     rcases List.mem_cons.mp hm with z|z
     ·obtain⟨ts,e1,_⟩:=tw.ret
      rw[←z,hq0] at e1;cases e1
     ·obtain⟨y,hy,z⟩:=List.mem_map.mp z
      obtain⟨_,_,ts,e1,_⟩:=Paired.mem1 tw.had (hsub.subset hy)
      rw[z,hq0] at e1;cases e1
   have nct:cb≠t:=λz=>by rw[z,et] at n1;cases n1
   have ncr:cb≠L.rl:=λz=>by
    obtain⟨ts,e1,_⟩:=tw.ret
    rw[z,e1] at n1;cases n1
   have hlen':(takeOut st p.id).points.length≤40:=Nat.le_trans (List.length_filter_le _ _) h40
   have hret:=G.ret
   refine⟨_,rfl,_,rfl,t,⟨q,L.rl,ps'⟩,takeOut st p.id,cb,codesOf st,rfl,tw3,hlen',by show st.retired.length≤100000;omega,by rw[za6 nct];exact s2 _ _ hcb,by rw[zbg];exact h40,ncr,λH4 k4 tw4=>?_⟩
   have nxt:x.1≠t:=tw.zfU T.ne1 ⟨dx,fp,e,FP⟩
   have nxr:x.1≠L.rl:=λz=>by
    rw[z] at e
    obtain⟨xs,z2⟩:=tw.ret.is e
    cases z2
   have k3:Kept [t] H (upd H2 t (.ins Ad.CT dt (putF "points" (.ref q) fs))):=(Same.kept _ sH2).comp zaG
   have e4:H4 x.1=some (.ins Ad.CP dx fp):=k4 _ _ (k3 _ _ e (by simpa using nxt)) (by simpa using nxr)
   refine⟨_,rfl,x.1,Ad.CP,dx,fp,_,rfl,e4,T.clCP,T.zb2,FP.code,(by show 1≤sizeLine;decide),λa ha=>?_⟩
   have s5:∀o:HO,Same H4 (upd H4 a o):=λo=>za8 ha
   refine kQ _ a ⟨q,L.rl,ps'⟩ (Kept.mono ((k3.trans k4).comp (Same.kept _ (s5 _))) λb hb=>?_) (λb hb=>?_) (tw4.same (s5 _)) za1
   ·have hb:b=t∨b=L.rl:=by simpa using hb
    rcases hb with z|z
    ·rw[z];exact List.mem_cons_self
    ·rw[z];exact List.mem_cons_of_mem _ (List.mem_cons_of_mem _ List.mem_cons_self)
   ·have hb:b=t∨b=q∨b=L.rl∨b∈ps'.map (·.1)∨b∈ps'.map (·.2):=by
     simpa only[Lay.foot,List.mem_cons,List.mem_append] using hb
    rcases hb with z|z|z|z|z
    ·rw[z];exact .inl List.mem_cons_self
    ·rw[z];exact .inr hq0
    ·rw[z];exact .inl (List.mem_cons_of_mem _ (List.mem_cons_of_mem _ List.mem_cons_self))
    ·exact .inl (List.mem_cons_of_mem _ (List.mem_cons_of_mem _ (List.mem_cons_of_mem _ (List.mem_append_left _ ((hsub.map _).subset z)))))
    ·exact .inl (List.mem_cons_of_mem _ (List.mem_cons_of_mem _ (List.mem_cons_of_mem _ (List.mem_append_right _ ((hsub.map _).subset z)))))
end
end Pd
end
section
namespace Pd
open PySem PySem.Spec PyProof.Rows L2
open Vbpoan (State Point Old Retired codesOf loadsOf isFree pointOf inside spread nsum onPoint)
open VbpoanNeutral (flat)
theorem adopt7 {s:State} (h:Vbpoan.bestWorth s=none):Vbpoan.step s .adopt=Vbpoan.no s 7:=by
 show (match Vbpoan.bestWorth s with|none=>_|some w=>_)=_
 rw[h]
theorem adopt8 {s:State} {w:Vbpoan.Worth} (h:Vbpoan.bestWorth s=some w) (h2:Vbpoan.plan s=none):Vbpoan.step s .adopt=Vbpoan.no s 8:=by
 show (match Vbpoan.bestWorth s with|none=>_|some w=>match Vbpoan.plan s with|none=>_|some l=>_)=_
 rw[h,h2]
theorem zoY {s:State} {w:Vbpoan.Worth} {l:List (Nat×Nat)} (h:Vbpoan.bestWorth s=some w) (h2:Vbpoan.plan s=some l) :
  Vbpoan.step s .adopt=Vbpoan.yes (Vbpoan.retire (recode s (spread l)) (codesOf s)) (s.points.length - w.kept) [Vbpoan.ints [w.districts,(Vbpoan.retire (recode s (spread l)) (codesOf s)).retired.length - s.retired.length]]:=by
 show (match Vbpoan.bestWorth s with|none=>_|some w=>match Vbpoan.plan s with|none=>_|some l=>_)=_
 rw[h,h2]
 rfl
section
variable {P:Program} {w:World} {K:PySem.W.Frag} {mg:Str→Option Value} {base:Heap} {Ad:Adr}
def zd6:Stmt:=top 56
theorem zbo:FnScope ["town","districts","moved","codes_before","point","code"] ["town"] (defScope zd6):=⟨rfl,rfl,rfl,by decide +kernel,rfl,by decide +kernel,by decide +kernel⟩
def zfj (Ad:Adr):Sp:=λvs H Q E=>∃t L s n,vs=[.ref t]∧TownAt Ad.CP Ad.CT H t L s∧Good n s∧n≤401∧KEx Ad H s .adopt E∧KAc Ad H t L s .adopt Q
theorem zjI (D:DefIn K mg "adopt_plan" zd6 ["town"]) (T:Txt K mg Ad) (zc9:Callable P w K mg base 6 "make_plan" ["town"] (ze2 Ad)) (zak:Callable P w K mg base 1 "as_row" ["numbers"] zbc)
  (zaY:Callable P w K mg base 2 "count_kept" ["points","districts"] (zcx Ad.CP)) (zav:Callable P w K mg base 1 "codes_of" ["points"] (zbM Ad.CP))
  (zaT:Callable P w K mg base 1 "codes_by_point" ["districts"] zc6) (zf4:Callable P w K mg base 1 "give_code" ["town","point","code"] (zgz Ad.CP Ad.CT))
  (zbe:Callable P w K mg base 2 "retire_codes" ["town","codes_before"] (zcL Ad.CP Ad.CT)):Callable P w K mg base 7 "adopt_plan" ["town"] (zfj Ad):=by
 refine D.ok (k:=6) zbo (λvs H Q E h=>?_) (λf cdv A outer s H vs Q E hr h=>?_)
 ·obtain⟨t,L,s,n,rfl,_⟩:=h;rfl
 ·obtain⟨t,L,st,n,rfl,tw,G,hn,kE,kQ⟩:=h
  have line:sizeLine=16777216:=sizeLine_eq
  obtain⟨dt,fs,et,F⟩:=tw.tw
  have hlp:=tw.pts.len
  have h40:=G.len
  have hret:=G.ret
  refine⟨_,(za2 (zah (i:=1) zbo.nd rfl (by first|exact Or.inl rfl|exact Or.inr rfl) (pe_fn zc9 (hr.mono (by decide)) rfl (passP λ_ _ _ z=>z) (za0 (pv 0) za4)))
   (za2 (zah (i:=2) zbo.nd rfl (by first|exact Or.inl rfl|exact Or.inr rfl) (pe_op zgK (zai zaa rfl T.b_len PySem.boot_len (za0 (zab (pv 0) rfl) za4)) (pe_fn zaY (hr.mono (by decide)) rfl passN (za0 (zab (pv 0) rfl) (za0 (pv 1) za4)))))
   (za2 (zah (i:=3) zbo.nd rfl (by first|exact Or.inl rfl|exact Or.inr rfl) (pe_fn zav (hr.mono (by decide)) rfl passN (za0 (zab (pv 0) rfl) za4)))
   (za2 (zbB ownP rfl (zpY rfl T.b_zip (za0 (zab (pv 0) rfl) (za0 (pe_fn zaT (hr.mono (by decide)) rfl passN (za0 (pv 1) za4)) za4))) (zgJ (n:=2) rfl (zax (zaj (i:=4) zbo.nd rfl (by first|exact Or.inl rfl|exact Or.inr rfl)) (zax (zaj (i:=5) zbo.nd rfl (by first|exact Or.inl rfl|exact Or.inr rfl)) zde))) (za5 (zaA (pe_fn zf4 (hr.mono (by decide)) rfl passN (za0 (pv 0) (za0 (pv 4) (za0 (pv 5) za4)))))))
   (za5 (zac (pe_op zcQ (zas (za0 (pv 2) za4)) (pe_fn zak (hr.mono (by decide)) rfl passN (za0 (zas (za0 (zai zaa rfl T.b_len PySem.boot_len (za0 (pv 1) za4)) (za0 (pe_fn zbe (hr.mono (by decide)) rfl passN (za0 (pv 0) (za0 (pv 3) za4))) za4))) za4))))))))),?_⟩
  refine⟨_,rfl,t,L,st,n,rfl,tw,G,hn,λh7 H' s'=>kE 7 _ H' (adopt7 h7) ref7 s',λw hw hp H' s'=>kE 8 _ H' (adopt8 hw hp) ref8 s',λwo l hw hp PI H1 d s1 n1 hrows=>?_⟩
  unfold KAc at kQ
  rw[zoY hw hp] at kQ
  have hll:=zeP PI
  have hsp:(spread l).length≤1000:=by rw[PI.len];omega
  obtain⟨ts,hts,tps⟩:=hrows
  have htl:ts.length=(l.map pairV).length:=Paired.length tps
  rw[List.length_map] at htl
  have elen:((L.ps.map λx=>V.ref x.1).length:Int)=(st.points.length:Int):=by rw[List.length_map,hlp]
  refine⟨_,rfl,t,Ad.CT,dt,fs,_,rfl,s1 _ _ et,T.clCT,T.zap,F.points,L.pl,_,rfl,.inl (SqL.of (s1 _ _ tw.pts.lst)),
   _,rfl,t,Ad.CT,dt,fs,_,rfl,s1 _ _ et,T.clCT,T.zap,F.points,_,rfl,L.pl,L.ps,st.points,d,l,rfl,tw.pts.same s1,⟨ts,hts,tps⟩,hsp,λH2 s2=>?_⟩
  have eM:(st.points.length:Int) - (keptC (st.points.map (·.code)) (spread l):Nat)=((st.points.length - wo.kept:Nat):Int):=by
   have h1:wo.kept=keptC (st.points.map (·.code)) (spread l):=by rw[PI.kept,zhZ (zhm PI.pos)];rfl
   have h2:keptC (st.points.map (·.code)) (spread l)≤st.points.length:=by
    unfold keptC
    refine Nat.le_trans (List.length_filter_le _ _) ?_
    rw[List.length_zip,List.length_map]
    omega
   rw[h1]
   omega
  refine⟨_,_,rfl,rfl,?_⟩
  have eM2:((L.ps.map λx=>V.ref x.1).length:Int) - (keptC (st.points.map (·.code)) (spread l):Nat)=((st.points.length - wo.kept:Nat):Int):=by rw[elen];exact eM
  show gName 2 (V.int (((L.ps.map λx=>V.ref x.1).length:Int) - (keptC (st.points.map (·.code)) (spread l):Nat))) _ _ _
  rw[eM2]
  have sH2:Same H H2:=Same.trans s1 s2
  refine⟨_,rfl,t,Ad.CT,dt,fs,_,rfl,sH2 _ _ et,T.clCT,T.zap,F.points,L.pl,L.ps,st.points,rfl,tw.pts.same sH2,h40,λH3 cb s3 n3 hcb=>?_⟩
  have sH3:Same H H3:=Same.trans sH2 s3
  have hcb0:H cb=none:=sH2.free n3
  refine⟨_,rfl,t,Ad.CT,dt,fs,_,rfl,sH3 _ _ et,T.clCT,T.zap,F.points,_,rfl,d,l,rfl,RowsAt.same ⟨ts,hts,tps⟩ (Same.trans s2 s3),hsp,λH4 cl s4 n4 hcl=>?_⟩
  have sH4:Same H H4:=Same.trans sH3 s4
  have tw4:=tw.same sH4
  have hcl0:H cl=none:=sH3.free n4
  have hcs:(spread l).length=st.points.length:=PI.len
  have trk:∀b∈L.ps.map (·.1)++L.ps.map (·.2),∃o,H b=some o:=λb hb=>by
   rcases List.mem_append.mp hb with z|z
   ·obtain⟨y,hy,rfl⟩:=List.mem_map.mp z
    obtain⟨_,_,_,_,e,_⟩:=Paired.mem1 tw.pts.pt hy
    exact⟨_,e⟩
   ·obtain⟨y,hy,rfl⟩:=List.mem_map.mp z
    obtain⟨_,_,_,e,_⟩:=Paired.mem1 tw.had hy
    exact⟨_,e⟩
  obtain⟨np1,np2⟩:=tw.pl_ne
  have notS:∀b,(∃xs,H b=some (.lst xs))→(∀y∈L.ps,y.2≠b)→b∉L.ps.map (·.1)++L.ps.map (·.2):=λb ⟨xs,hb⟩ h2 hm=>by
   rcases List.mem_append.mp hm with z|z
   ·obtain⟨y,hy,rfl⟩:=List.mem_map.mp z
    obtain⟨_,_,q⟩:=Paired.mem1 tw.pts.pt hy
    obtain⟨_,_,z⟩:=q.is hb
    cases z
   ·obtain⟨y,hy,z⟩:=List.mem_map.mp z
    exact h2 y hy z
  have plS:L.pl∉L.ps.map (·.1)++L.ps.map (·.2):=notS _ ⟨_,tw.pts.lst⟩ λy hy=>(np2 y hy).1
  have clS:cl∉L.ps.map (·.1)++L.ps.map (·.2):=λhm=>by obtain⟨o,e⟩:=trk _ hm;rw[hcl0] at e;cases e
  have cbS:cb∉L.ps.map (·.1)++L.ps.map (·.2):=λhm=>by obtain⟨o,e⟩:=trk _ hm;rw[hcb0] at e;cases e
  have tS:t∉L.ps.map (·.1)++L.ps.map (·.2):=λhm=>by
   rcases List.mem_append.mp hm with z|z
   ·obtain⟨y,hy,z⟩:=List.mem_map.mp z
    obtain⟨_,_,q⟩:=Paired.mem1 tw.pts.pt hy
    exact tw.zfU T.ne1 q z
   ·obtain⟨y,hy,z⟩:=List.mem_map.mp z
    obtain⟨_,_,q⟩:=Paired.mem1 tw.had hy
    exact zcl tw.tw q z
  refine⟨L.pl,cl,_,_,rfl,SqL.of tw4.pts.lst,SqL.of hcl,zqB (K:=K) (a:=L.pl) (b:=cl) (xs:=L.ps.map λx=>V.ref x.1) (zs:=natL (spread l)) st.points.length (by rw[List.length_map,List.length_map,hlp,hcs,Nat.min_self])
   (λi σ H'=>∃v4 v5,σ=[some (.ref t),some (.ref d),some (nat (st.points.length - wo.kept)),some (.ref cb),v4,v5]∧Kept (L.ps.map (·.1)++L.ps.map (·.2)) H4 H'∧
    ∀(j:Nat) x p c,L.ps[j]?=some x→st.points[j]?=some p→(spread l)[j]?=some c→PtAt Ad.CP H' x.1 x.2 (if j < i then Vbpoan.coded st c p else p)∧RowsAt H' x.2 ((if j < i then Vbpoan.coded st c p else p).olds.map oldV))
   ⟨none,none,rfl,Same.kept _ (Same.refl _),λj x p c hx hp hc=>?_⟩ (λi σ H' _ ⟨_,_,_,k1,_⟩=>⟨SqL.of (k1 _ _ tw4.pts.lst plS),SqL.of (k1 _ _ hcl clS)⟩) ?_ ?_⟩
  ·rw[if_neg (by omega)]
   obtain⟨p',hp',q1⟩:=Paired.get1 tw4.pts.pt hx
   obtain⟨p2,hp2,q2⟩:=Paired.get1 tw4.had hx
   rw[hp] at hp' hp2
   cases hp'
   cases hp2
   exact⟨q1,q2⟩
  ·rintro i vx vz TT σ H' hvx hvz hTT ⟨v4,v5,rfl,k1,hall⟩
   obtain⟨x,hx,rfl⟩:=pt_at hvx
   obtain⟨c,hc,rfl⟩:=zgL hvz
   obtain⟨p,hpp,_⟩:=Paired.get1 tw.pts.pt hx
   have sT:Same H' (upd H' TT (.tup [.ref x.1,nat c])):=za8 hTT
   obtain⟨q1,q2⟩:=hall i x p c hx hpp hc
   rw[if_neg (by omega)] at q1 q2
   have hol:=G.old p (List.mem_of_getElem? hpp)
   have hxm:x∈L.ps:=List.mem_of_getElem? hx
   refine⟨TT,_,rfl,SqT.of za1,rfl,_,_,rfl,_,_,rfl,rfl,?_⟩
   refine⟨_,rfl,_,rfl,_,rfl,t,L.pl,L.rl,st,x.1,x.2,p,c,rfl,TwAt.same (TwAt.kept tw4.tw k1 tS) sT,q1.same sT,q2.same sT,by omega,λH5 k5 pt5 had5=>?_⟩
   have kT:Kept [x.1,x.2] H' H5:=(Same.kept _ sT).comp k5
   refine⟨_,_,rfl,k1.comp (kT.mono λb hb=>?_),λj y q cc hy hq hcc=>?_⟩
   ·rcases List.mem_cons.mp hb with z|z
    ·rw[z];exact List.mem_append_left _ (List.mem_map.mpr ⟨x,hxm,rfl⟩)
    ·rw[List.mem_singleton.mp z];exact List.mem_append_right _ (List.mem_map.mpr ⟨x,hxm,rfl⟩)
   ·by_cases ej:j=i
    ·subst ej
     rw[hx] at hy
     rw[hpp] at hq
     rw[hc] at hcc
     cases hy
     cases hq
     cases hcc
     rw[if_pos (by omega)]
     exact⟨pt5,had5⟩
    ·have ei:(if j < i+1 then Vbpoan.coded st cc q else q)=(if j < i then Vbpoan.coded st cc q else q):=by
      by_cases hji:j < i
      ·rw[if_pos hji,if_pos (by omega)]
      ·rw[if_neg hji,if_neg (by omega)]
     rw[ei]
     obtain⟨r1,r2⟩:=hall j y q cc hy hq hcc
     have n11:y.1≠x.1:=λz=>ej (zcF tw.nd1 hy hx z)
     have hnd2:(L.ps.map (·.2)).Nodup:=by
      have:=tw.nd2
      rw[List.nodup_cons,List.nodup_cons] at this
      exact this.2.2
     have n22:y.2≠x.2:=λz=>ej (zcF hnd2 hy hx z)
     have n12:y.1≠x.2:=λz=>by
      obtain⟨dy,fy,ey,_⟩:=r1
      rw[z] at ey
      obtain⟨xs,z2⟩:=q2.is ey
      cases z2
     have n21:y.2≠x.1:=λz=>by
      obtain⟨dy,fy,ey,_⟩:=q1
      rw[←z] at ey
      obtain⟨xs,z2⟩:=r2.is ey
      cases z2
     refine⟨r1.kept kT (by simp[n11,n12]),r2.kept kT (by simp[n21,n22]) λb hb=>?_⟩
     rcases List.mem_cons.mp hb with z|z
     ·rw[z];exact q1.notTup
     ·rw[List.mem_singleton.mp z];exact q2.notTup
  ·rintro σ H5 ⟨v4,v5,rfl,k1,hall⟩
   have k1':Kept (L.ps.map (·.1)++L.ps.map (·.2)) H4 H5:=k1
   have hz:L.ps.length=((st.points.zip (spread l)).map λx=>Vbpoan.coded st x.2 x.1).length:=by rw[List.length_map,List.length_zip,hlp,hcs,Nat.min_self]
   have gz:∀(j:Nat) q,((st.points.zip (spread l)).map λx=>Vbpoan.coded st x.2 x.1)[j]?=some q→∃p c,st.points[j]?=some p∧(spread l)[j]?=some c∧q=Vbpoan.coded st c p∧j < st.points.length:=λj q hq=>by
    rw[List.getElem?_map] at hq
    cases ez:(st.points.zip (spread l))[j]? with
    | none=>rw[ez] at hq;cases hq
    | some y =>
     rw[ez] at hq
     obtain⟨h1,h2⟩:=List.getElem?_zip_eq_some.mp ez
     exact⟨y.1,y.2,h1,h2,(Option.some.inj hq).symm,(List.getElem?_eq_some_iff.mp h1).1⟩
   have tw5:TownAt Ad.CP Ad.CT H5 t L (recode st (spread l)):=by
    refine tw4.setPts T.ne1 k1' (Paired.ofGet hz λj x q hx hq=>?_) (Paired.ofGet hz λj x q hx hq=>?_)
    ·obtain⟨p,c,h1,h2,rfl,h3⟩:=gz j q hq
     have:=(hall j x p c hx h1 h2).1
     rw[if_pos h3] at this
     exact this
    ·obtain⟨p,c,h1,h2,rfl,h3⟩:=gz j q hq
     have:=(hall j x p c hx h1 h2).2
     rw[if_pos h3] at this
     exact this
   have hd5:RowsAt H5 d (l.map pairV):=by
    have r4:RowsAt H4 d (l.map pairV):=RowsAt.same ⟨ts,hts,tps⟩ (Same.trans (Same.trans s2 s3) s4)
    refine r4.kept k1' (λhm=>?_) λb hb xs e=>?_
    ·obtain⟨o,e⟩:=trk _ hm
     rw[n1] at e;cases e
    ·obtain⟨o,eo⟩:=trk _ hb
     rw[sH4 _ _ eo] at e
     cases e
     rcases List.mem_append.mp hb with z|z
     ·obtain⟨y,hy,rfl⟩:=List.mem_map.mp z
      obtain⟨_,_,q⟩:=Paired.mem1 tw.pts.pt hy
      exact q.notTup _ eo
     ·obtain⟨y,hy,rfl⟩:=List.mem_map.mp z
      obtain⟨_,_,q⟩:=Paired.mem1 tw.had hy
      exact q.notTup _ eo
   refine⟨_,rfl,(by show 1≤sizeLine;decide),λa ha=>?_⟩
   have s6:∀o:HO,Same H5 (upd H5 a o):=λo=>za8 ha
   obtain⟨us,hus,ups⟩:=hd5
   have hul:us.length=(l.map pairV).length:=Paired.length ups
   rw[List.length_map] at hul
   have eul:((us.map V.ref).length:Int)=(l.length:Int):=by rw[List.length_map,hul]
   have hrl:(recode st (spread l)).points.length≤40:=by
    show ((st.points.zip (spread l)).map λx=>Vbpoan.coded st x.2 x.1).length≤40
    rw[←hz,hlp];exact h40
   have ncr:cb≠L.rl:=λz=>by
    obtain⟨ts,e1,_⟩:=tw.ret
    rw[z,e1] at hcb0;cases hcb0
   refine⟨_,rfl,d,_,rfl,.inl (SqL.of (s6 _ _ _ hus)),_,rfl,_,rfl,t,L,recode st (spread l),cb,codesOf st,rfl,tw5.same (s6 _),hrl,by show st.retired.length≤100000;omega,s6 _ _ _ (k1' _ _ (s4 _ _ hcb) cbS),by rw[zbg];exact h40,ncr,λH7 k7 tw7=>?_⟩
   rw[eul]
   refine⟨(by show 2≤sizeLine;decide),λb hb=>?_⟩
   have s8:∀o:HO,Same H7 (upd H7 b o):=λo=>za8 hb
   refine⟨b,_,rfl,za1,by show 2 < 100000;decide,λH9 c s9 n9 hc9=>?_⟩
   have nar:a≠L.rl:=λz=>by
    obtain⟨ts,e1,_⟩:=tw5.ret
    rw[z,e1] at ha;cases ha
   have ea:H7 a=some (.lst [nat (st.points.length - wo.kept)]):=k7 _ _ za1 (by simpa using nar)
   refine⟨a,c,_,_,rfl,rfl,s9 _ _ (s8 _ _ _ ea),hc9,by show 1+3≤sizeLine;decide,λq hq=>?_⟩
   have s10:Same H9 _:=za8 (o:=.lst ([nat (st.points.length - wo.kept)]++(V.int 2::[nat l.length,nat (lostOf (codesOf st) (codesOf (recode st (spread l)))).length]))) hq
   have sEnd:=Same.trans (Same.trans (s8 (.lst [nat l.length,nat (lostOf (codesOf st) (codesOf (recode st (spread l)))).length])) s9) s10
   refine kQ _ q L (Kept.mono ((Same.kept (L.ps.map (·.1)++L.ps.map (·.2)) sH4).comp k1' |>.comp (Same.kept _ (s6 _)) |>.trans (k7.comp (Same.kept _ sEnd))) λe he=>?_) zdt (tw7.same sEnd) ?_
   ·rcases List.mem_append.mp he with z|z
    ·exact List.mem_cons_of_mem _ (List.mem_cons_of_mem _ (List.mem_cons_of_mem _ z))
    ·rw[List.mem_singleton.mp z];exact List.mem_cons_of_mem _ (List.mem_cons_of_mem _ List.mem_cons_self)
   ·rw[za1]
    have er:(Vbpoan.retire (recode st (spread l)) (codesOf st)).retired.length - st.retired.length=(lostOf (codesOf st) (codesOf (recode st (spread l)))).length:=by
     rw[zft]
     show (st.retired++_).length - _=_
     rw[List.length_append,List.length_map]
     omega
    rw[er,PI.d]
    rfl
end
end Pd
end
section
namespace L2
open PySem PySem.Spec PyProof.Rows
abbrev ZipOut (h:Heap) (z TI TO a:Addr) (f:Bool):Prop:=h.get? z=some { cls:=.type "zip",dict:=none,data:=.fields #[rawInt a,.bool f,.bool false,.ref TI,.ref TO],slots:=#[] }
section
variable {prog:Program} {w:World} {A:Around} {E:Value→Shared→Prop} {s:Shared}
theorem znu {z TI TO i1 i2 l1 l2 a:Addr} {f:Bool} {oa:Obj} {k1 k2:Nat} {xs ys:Array Value} {x y:Value} {Q:Option Value→Shared→Prop} (D:ZipApart z TI TO i1 i2 l1 l2)
  (hz:ZipOut s.heap z TI TO a f) (ha:s.heap.get? a=some oa) (hTI:IsPair s.heap TI (.ref i1) (.ref i2))
  (h1:s.heap.IsListIter i1 l1 k1) (h2:s.heap.IsListIter i2 l2 k2) (hl1:s.heap.IsList l1 xs) (hl2:s.heap.IsList l2 ys) (hx:xs[k1]?=some x) (hy:ys[k2]?=some y)
  (hQ:∀h',ZipOut h' z TI TO a true→h'.IsListIter i1 l1 (k1+1)→h'.IsListIter i2 l2 (k2+1)→IsPair h' s.heap.objs.size x y→h'.objs.size=s.heap.objs.size+1→
   (∀c o,c≠z→c≠i1→c≠i2→s.heap.get? c=some o→h'.get? c=some o)→Q (some (.ref s.heap.objs.size)) { s with heap:=h' }) :
  wpAny (model prog w) A (pyNext (.ref z)) Q E s:=by
 obtain⟨hp,g,dr,tk,os⟩:=s
 have hT:Shared.TypeIs ⟨hp,g,dr,tk,os⟩ (.ref z) "zip":=⟨_,hz,rfl⟩
 unfold pyNext
 refine wpAny_bind (wpAny_attempt (wpAny_callSpecial?_slot (name:=Str.ofString "__next__") hT F.slot_zip_next
  (wpAny_call_entry F.slot_zip_next hT F.entry_zip_next ?_ (F.args_zip_next_1 _))))
 show wpAny _ _ (field (.ref z) 2 >>= _) _ _ _
 refine wpAny_bind (wpAny_field hz rfl (x:=.bool false) rfl ?_)
 show wpAny _ _ (field (.ref z) 3 >>= _) _ _ _
 refine wpAny_bind (wpAny_field hz rfl (x:=.ref TI) rfl ?_)
 refine wpAny_bind (wpAny_seqItems hTI rfl ?_)
 show wpAny _ _ (Builtin.SmallTypes.ownedTupleIsFree (.ref z) >>= _) _ _ _
 refine wpAny_bind ?_
 unfold Builtin.SmallTypes.ownedTupleIsFree
 refine wpAny_bind (wpAny_field hz rfl (x:=rawInt a) rfl ?_)
 show wpAny _ _ (loadIfAlive ((a:Int).toNat) >>= _) _ _ _
 rw[Int.toNat_natCast]
 refine wpAny_bind (PySem.W.kdx_alive ha ?_)
 simp only[Option.isNone_some,Bool.false_eq_true,if_false]
 refine wpAny_bind (wpAny_field hz rfl (x:=.bool f) rfl ?_)
 cases f with
 | true =>
  rw[if_neg (show ¬ ((Value.bool true != Value.bool true)=true) from Bool.false_ne_true)]
  refine wpAny_pure ?_
  simp only[Bool.false_eq_true,if_false]
  obtain⟨h₃,e₃⟩:∃h₃,h₃=hp:=⟨hp,rfl⟩
  have he₃:ZipOut h₃ z TI TO a true:=by rw[e₃];exact hz
  have hs₃:Heap.SameBut z hp h₃:=by rw[e₃];exact Heap.SameBut.refl _ _
  rw[←e₃]
  clear e₃
  rw[←Array.forIn_toList]
  show wpAny _ _ (forIn [Value.ref i1,Value.ref i2] _ _ >>= _) _ _ _
  simp only[List.forIn_cons,List.forIn_nil]
  refine wpAny_bind (wpAny_bind (wpAny_bind (wpAny_holding ?_)))
  show wpAny _ _ (Builtin.SmallTypes.nextOf (.ref i1) >>= _) _ _ _
  refine wpAny_bind (wpAny_nextOf_list_item (h1.extBut hs₃.extBut D.i1z) (hl1.extBut hs₃.extBut D.l1z) hx λh₄ h1₄ hs₄=>wpAny_pure (wpAny_pure ?_))
  replace hs₄:Heap.SameBut i1 h₃ h₄:=hs₄
  refine wpAny_bind (wpAny_bind (wpAny_holding ?_))
  show wpAny _ _ (Builtin.SmallTypes.nextOf (.ref i2) >>= _) _ _ _
  refine wpAny_bind (wpAny_nextOf_list_item ((h2.extBut hs₃.extBut D.i2z).extBut hs₄.extBut D.i12.symm) ((hl2.extBut hs₃.extBut D.l2z).extBut hs₄.extBut D.l2i1) hy λh₅ h2₅ hs₅=>wpAny_pure (wpAny_pure (wpAny_pure ?_)))
  replace hs₅:Heap.SameBut i2 h₄ h₅:=hs₅
  refine wpAny_bind (wpAny_newTuple (hsz:=by show 2≤sizeLine;decide) ?_)
  have hsz:h₅.objs.size=hp.objs.size:=by rw[hs₅.1,hs₄.1,hs₃.1]
  have up:∀c o,c≠z→c≠i1→c≠i2→hp.get? c=some o→(h₅.push { cls:=.type "tuple",data:=.seq #[x,y] }).get? c=some o:=λc o c1 c2 c3 e=>Heap.get?_push_of_some _ (hs₅.extBut _ _ c3 (hs₄.extBut _ _ c2 (hs₃.extBut _ _ c1 e)))
  have hz5:(h₅.push { cls:=.type "tuple",data:=.seq #[x,y] }).objs.size=hp.objs.size+1:=by rw[Heap.size_push,hsz]
  have hT5:IsPair (h₅.push { cls:=.type "tuple",data:=.seq #[x,y] }) hp.objs.size x y:=by rw[←hsz];exact Heap.get?_push_size _ rfl
  refine wpAny_pure ⟨_,rfl,?_⟩
  show wpAny _ _ (pure (some (Value.ref h₅.objs.size))) _ _ _
  rw[hsz]
  exact wpAny_pure (hQ _ (Heap.get?_push_of_some _ (hs₅.extBut _ _ D.i2z.symm (hs₄.extBut _ _ D.i1z.symm he₃))) ((h1₄.extBut hs₅.extBut D.i12).at λo e=>Heap.get?_push_of_some _ e) (h2₅.at λo e=>Heap.get?_push_of_some _ e) hT5 hz5 up)
 | false =>
  rw[if_pos (show (Value.bool false != Value.bool true)=true from rfl)]
  refine wpAny_bind (wpAny_setField_rec hz (by simp) λh₃ he₃ hs₃=>?_)
  replace hs₃:Heap.SameBut z hp h₃:=hs₃
  replace he₃:ZipOut h₃ z TI TO a true:=he₃
  refine wpAny_pure ?_
  simp only[Bool.false_eq_true,if_false]
  rw[←Array.forIn_toList]
  show wpAny _ _ (forIn [Value.ref i1,Value.ref i2] _ _ >>= _) _ _ _
  simp only[List.forIn_cons,List.forIn_nil]
  refine wpAny_bind (wpAny_bind (wpAny_bind (wpAny_holding ?_)))
  show wpAny _ _ (Builtin.SmallTypes.nextOf (.ref i1) >>= _) _ _ _
  refine wpAny_bind (wpAny_nextOf_list_item (h1.extBut hs₃.extBut D.i1z) (hl1.extBut hs₃.extBut D.l1z) hx λh₄ h1₄ hs₄=>wpAny_pure (wpAny_pure ?_))
  replace hs₄:Heap.SameBut i1 h₃ h₄:=hs₄
  refine wpAny_bind (wpAny_bind (wpAny_holding ?_))
  show wpAny _ _ (Builtin.SmallTypes.nextOf (.ref i2) >>= _) _ _ _
  refine wpAny_bind (wpAny_nextOf_list_item ((h2.extBut hs₃.extBut D.i2z).extBut hs₄.extBut D.i12.symm) ((hl2.extBut hs₃.extBut D.l2z).extBut hs₄.extBut D.l2i1) hy λh₅ h2₅ hs₅=>wpAny_pure (wpAny_pure (wpAny_pure ?_)))
  replace hs₅:Heap.SameBut i2 h₄ h₅:=hs₅
  refine wpAny_bind (wpAny_newTuple (hsz:=by show 2≤sizeLine;decide) ?_)
  have hsz:h₅.objs.size=hp.objs.size:=by rw[hs₅.1,hs₄.1,hs₃.1]
  have up:∀c o,c≠z→c≠i1→c≠i2→hp.get? c=some o→(h₅.push { cls:=.type "tuple",data:=.seq #[x,y] }).get? c=some o:=λc o c1 c2 c3 e=>Heap.get?_push_of_some _ (hs₅.extBut _ _ c3 (hs₄.extBut _ _ c2 (hs₃.extBut _ _ c1 e)))
  have hz5:(h₅.push { cls:=.type "tuple",data:=.seq #[x,y] }).objs.size=hp.objs.size+1:=by rw[Heap.size_push,hsz]
  have hT5:IsPair (h₅.push { cls:=.type "tuple",data:=.seq #[x,y] }) hp.objs.size x y:=by rw[←hsz];exact Heap.get?_push_size _ rfl
  refine wpAny_pure ⟨_,rfl,?_⟩
  show wpAny _ _ (pure (some (Value.ref h₅.objs.size))) _ _ _
  rw[hsz]
  exact wpAny_pure (hQ _ (Heap.get?_push_of_some _ (hs₅.extBut _ _ D.i2z.symm (hs₄.extBut _ _ D.i1z.symm he₃))) ((h1₄.extBut hs₅.extBut D.i12).at λo e=>Heap.get?_push_of_some _ e) (h2₅.at λo e=>Heap.get?_push_of_some _ e) hT5 hz5 up)
theorem zp0 {z TI TO i1 i2 l1 l2 a:Addr} {f:Bool} {oa:Obj} {k1 k2:Nat} {xs ys:Array Value} {Q:Option Value→Shared→Prop} (hh:A.handled=none) (D:ZipApart z TI TO i1 i2 l1 l2)
  (hz:ZipOut s.heap z TI TO a f) (ha:s.heap.get? a=some oa) (hTI:IsPair s.heap TI (.ref i1) (.ref i2))
  (h1:s.heap.IsListIter i1 l1 k1) (h2:s.heap.IsListIter i2 l2 k2) (hl1:s.heap.IsList l1 xs) (hl2:s.heap.IsList l2 ys) (hend:xs[k1]?=none∨ys[k2]?=none)
  (hQ:∀h',(∀c o,c≠z→c≠i1→c≠i2→s.heap.get? c=some o→h'.get? c=some o)→Q none { s with heap:=h' }) :
  wpAny (model prog w) A (pyNext (.ref z)) Q E s:=by
 obtain⟨hp,g,dr,tk,os⟩:=s
 have hT:Shared.TypeIs ⟨hp,g,dr,tk,os⟩ (.ref z) "zip":=⟨_,hz,rfl⟩
 unfold pyNext
 refine wpAny_bind (wpAny_attempt (wpAny_callSpecial?_slot (name:=Str.ofString "__next__") hT F.slot_zip_next
  (wpAny_call_entry F.slot_zip_next hT F.entry_zip_next ?_ (F.args_zip_next_1 _))))
 show wpAny _ _ (field (.ref z) 2 >>= _) _ _ _
 refine wpAny_bind (wpAny_field hz rfl (x:=.bool false) rfl ?_)
 show wpAny _ _ (field (.ref z) 3 >>= _) _ _ _
 refine wpAny_bind (wpAny_field hz rfl (x:=.ref TI) rfl ?_)
 refine wpAny_bind (wpAny_seqItems hTI rfl ?_)
 show wpAny _ _ (Builtin.SmallTypes.ownedTupleIsFree (.ref z) >>= _) _ _ _
 refine wpAny_bind ?_
 unfold Builtin.SmallTypes.ownedTupleIsFree
 refine wpAny_bind (wpAny_field hz rfl (x:=rawInt a) rfl ?_)
 show wpAny _ _ (loadIfAlive ((a:Int).toNat) >>= _) _ _ _
 rw[Int.toNat_natCast]
 refine wpAny_bind (PySem.W.kdx_alive ha ?_)
 simp only[Option.isNone_some,Bool.false_eq_true,if_false]
 refine wpAny_bind (wpAny_field hz rfl (x:=.bool f) rfl ?_)
 cases f with
 | true =>
  rw[if_neg (show ¬ ((Value.bool true != Value.bool true)=true) from Bool.false_ne_true)]
  refine wpAny_pure ?_
  simp only[Bool.false_eq_true,if_false]
  obtain⟨h₃,e₃⟩:∃h₃,h₃=hp:=⟨hp,rfl⟩
  have he₃:ZipOut h₃ z TI TO a true:=by rw[e₃];exact hz
  have hs₃:Heap.SameBut z hp h₃:=by rw[e₃];exact Heap.SameBut.refl _ _
  rw[←e₃]
  clear e₃
  rw[←Array.forIn_toList]
  show wpAny _ _ (forIn [Value.ref i1,Value.ref i2] _ _ >>= _) _ _ _
  simp only[List.forIn_cons,List.forIn_nil]
  refine wpAny_bind (wpAny_bind (wpAny_bind (wpAny_holding ?_)))
  show wpAny _ _ (Builtin.SmallTypes.nextOf (.ref i1) >>= _) _ _ _
  cases hx:xs[k1]? with
  | none =>
   refine wpAny_bind (wpAny_nextOf_list_end hh (h1.extBut hs₃.extBut D.i1z) (hl1.extBut hs₃.extBut D.l1z) hx λh₄ e hs₄ he=>?_)
   obtain⟨oe,hoe,hce⟩:=he
   refine wpAny_bind (wpAny_isInstance (T:="StopIteration") (b:=true) ⟨oe,hoe,hce⟩ isSubtype_stop ?_)
   exact wpAny_pure (hQ _ λc o c1 c2 c3 x=>hs₄ _ _ c2 (hs₃.extBut _ _ c1 x))
  | some x =>
   have hy:ys[k2]?=none:=by
    rcases hend with q|q
    ·rw[hx] at q;cases q
    ·exact q
   refine wpAny_bind (wpAny_nextOf_list_item (h1.extBut hs₃.extBut D.i1z) (hl1.extBut hs₃.extBut D.l1z) hx λh₄ h1₄ hs₄=>wpAny_pure (wpAny_pure ?_))
   replace hs₄:Heap.SameBut i1 h₃ h₄:=hs₄
   refine wpAny_bind (wpAny_bind (wpAny_holding ?_))
   show wpAny _ _ (Builtin.SmallTypes.nextOf (.ref i2) >>= _) _ _ _
   refine wpAny_bind (wpAny_nextOf_list_end hh ((h2.extBut hs₃.extBut D.i2z).extBut hs₄.extBut D.i12.symm) ((hl2.extBut hs₃.extBut D.l2z).extBut hs₄.extBut D.l2i1) hy λh₅ e hs₅ he=>?_)
   obtain⟨oe,hoe,hce⟩:=he
   refine wpAny_bind (wpAny_isInstance (T:="StopIteration") (b:=true) ⟨oe,hoe,hce⟩ isSubtype_stop ?_)
   exact wpAny_pure (hQ _ λc o c1 c2 c3 x=>hs₅ _ _ c3 (hs₄.extBut _ _ c2 (hs₃.extBut _ _ c1 x)))
 | false =>
  rw[if_pos (show (Value.bool false != Value.bool true)=true from rfl)]
  refine wpAny_bind (wpAny_setField_rec hz (by simp) λh₃ he₃ hs₃=>?_)
  replace hs₃:Heap.SameBut z hp h₃:=hs₃
  replace he₃:ZipOut h₃ z TI TO a true:=he₃
  refine wpAny_pure ?_
  simp only[Bool.false_eq_true,if_false]
  rw[←Array.forIn_toList]
  show wpAny _ _ (forIn [Value.ref i1,Value.ref i2] _ _ >>= _) _ _ _
  simp only[List.forIn_cons,List.forIn_nil]
  refine wpAny_bind (wpAny_bind (wpAny_bind (wpAny_holding ?_)))
  show wpAny _ _ (Builtin.SmallTypes.nextOf (.ref i1) >>= _) _ _ _
  cases hx:xs[k1]? with
  | none =>
   refine wpAny_bind (wpAny_nextOf_list_end hh (h1.extBut hs₃.extBut D.i1z) (hl1.extBut hs₃.extBut D.l1z) hx λh₄ e hs₄ he=>?_)
   obtain⟨oe,hoe,hce⟩:=he
   refine wpAny_bind (wpAny_isInstance (T:="StopIteration") (b:=true) ⟨oe,hoe,hce⟩ isSubtype_stop ?_)
   exact wpAny_pure (hQ _ λc o c1 c2 c3 x=>hs₄ _ _ c2 (hs₃.extBut _ _ c1 x))
  | some x =>
   have hy:ys[k2]?=none:=by
    rcases hend with q|q
    ·rw[hx] at q;cases q
    ·exact q
   refine wpAny_bind (wpAny_nextOf_list_item (h1.extBut hs₃.extBut D.i1z) (hl1.extBut hs₃.extBut D.l1z) hx λh₄ h1₄ hs₄=>wpAny_pure (wpAny_pure ?_))
   replace hs₄:Heap.SameBut i1 h₃ h₄:=hs₄
   refine wpAny_bind (wpAny_bind (wpAny_holding ?_))
   show wpAny _ _ (Builtin.SmallTypes.nextOf (.ref i2) >>= _) _ _ _
   refine wpAny_bind (wpAny_nextOf_list_end hh ((h2.extBut hs₃.extBut D.i2z).extBut hs₄.extBut D.i12.symm) ((hl2.extBut hs₃.extBut D.l2z).extBut hs₄.extBut D.l2i1) hy λh₅ e hs₅ he=>?_)
   obtain⟨oe,hoe,hce⟩:=he
   refine wpAny_bind (wpAny_isInstance (T:="StopIteration") (b:=true) ⟨oe,hoe,hce⟩ isSubtype_stop ?_)
   exact wpAny_pure (hQ _ λc o c1 c2 c3 x=>hs₅ _ _ c3 (hs₄.extBut _ _ c2 (hs₃.extBut _ _ c1 x)))
structure ZSt (h:Heap) (z TI TO i1 i2 l1 l2 S:Addr) (xs ys:Array Value) (i:Nat):Prop where
 z0:(i=0∧IsZip h z TI TO .none∧∃x y,IsPair h TO x y)∨∃a f oa,ZipOut h z TI TO a f∧h.get? a=some oa∧S < a
 ti:IsPair h TI (.ref i1) (.ref i2)
 h1:h.IsListIter i1 l1 i
 h2:h.IsListIter i2 l2 i
 e1:h.IsList l1 xs
 e2:h.IsList l2 ys
structure ZLow (z TI TO i1 i2 l1 l2 S:Addr):Prop where
 z:z < S
 TI:TI < S
 TO:TO < S
 i1:i1 < S
 i2:i2 < S
 l1:l1 < S
 l2:l2 < S
theorem zco {h h':Heap} {l:Addr} {xs:Array Value} (x:h.IsList l xs) (k:∀o,h.get? l=some o→h'.get? l=some o):h'.IsList l xs:=by
 obtain⟨o,ho,r⟩:=x
 exact⟨o,k o ho,r⟩
theorem ZSt.keep {h h':Heap} {z TI TO i1 i2 l1 l2 S:Addr} {xs ys:Array Value} {i:Nat} (L:ZLow z TI TO i1 i2 l1 l2 S) (x:ZSt h z TI TO i1 i2 l1 l2 S xs ys i) (k:∀b o,b≠S→h.get? b=some o→h'.get? b=some o):ZSt h' z TI TO i1 i2 l1 l2 S xs ys i:=by
 refine⟨?_,k _ _ (Nat.ne_of_lt L.TI) x.ti,x.h1.at λo e=>k _ o (Nat.ne_of_lt L.i1) e,x.h2.at λo e=>k _ o (Nat.ne_of_lt L.i2) e,zco x.e1 λo e=>k _ o (Nat.ne_of_lt L.l1) e,zco x.e2 λo e=>k _ o (Nat.ne_of_lt L.l2) e⟩
 rcases x.z0 with ⟨e,hz,a,b,hT⟩|⟨a,f,oa,hz,ha,hS⟩
 ·exact .inl ⟨e,k _ _ (Nat.ne_of_lt L.z) hz,a,b,k _ _ (Nat.ne_of_lt L.TO) hT⟩
 ·exact .inr ⟨a,f,oa,k _ _ (Nat.ne_of_lt L.z) hz,k _ _ (Nat.ne_of_gt hS) ha,hS⟩
theorem zq5 {z TI TO i1 i2 l1 l2 S:Addr} {xs ys:Array Value} {i:Nat} {x y:Value} {Q:Option Value→Shared→Prop} (D:ZipApart z TI TO i1 i2 l1 l2) (L:ZLow z TI TO i1 i2 l1 l2 S) (st:ZSt s.heap z TI TO i1 i2 l1 l2 S xs ys i)
  (hS:S < s.heap.objs.size) (hx:xs[i]?=some x) (hy:ys[i]?=some y)
  (hQ:∀h',ZSt h' z TI TO i1 i2 l1 l2 S xs ys (i+1)→IsPair h' s.heap.objs.size x y→h'.objs.size=s.heap.objs.size+1→
   (∀c o,c≠z→c≠TO→c≠i1→c≠i2→s.heap.get? c=some o→h'.get? c=some o)→Q (some (.ref s.heap.objs.size)) { s with heap:=h' }) :
  wpAny (model prog w) A (pyNext (.ref z)) Q E s:=by
 rcases st.z0 with ⟨e,hz,a,b,hT⟩|⟨a,f,oa,hz,ha,hSa⟩
 ·refine wpAny_pyNext_zip_item D hz st.ti hT st.h1 st.h2 st.e1 st.e2 hx hy λh' z' TO' h1' h2' hT' hsz hk=>hQ h' ⟨.inr ⟨_,false,_,z',hT',hS⟩,hk _ _ D.TIz D.TITO D.TIi1 D.TIi2 st.ti,h1',h2',?_,?_⟩ hT' hsz hk
  ·exact zco st.e1 λo e=>hk _ o D.l1z D.l1TO D.l1i1 D.l1i2 e
  ·exact zco st.e2 λo e=>hk _ o D.l2z D.l2TO D.l2i1 D.l2i2 e
 ·have na:a≠z∧a≠i1∧a≠i2:=⟨Nat.ne_of_gt (Nat.lt_trans L.z hSa),Nat.ne_of_gt (Nat.lt_trans L.i1 hSa),Nat.ne_of_gt (Nat.lt_trans L.i2 hSa)⟩
  refine znu D hz ha st.ti st.h1 st.h2 st.e1 st.e2 hx hy λh' z' h1' h2' hT' hsz hk=>hQ h' ⟨.inr ⟨a,true,oa,z',hk _ _ na.1 na.2.1 na.2.2 ha,hSa⟩,hk _ _ D.TIz D.TIi1 D.TIi2 st.ti,h1',h2',?_,?_⟩ hT' hsz λc o c1 _ c3 c4 e=>hk c o c1 c3 c4 e
  ·exact zco st.e1 λo e=>hk _ o D.l1z D.l1i1 D.l1i2 e
  ·exact zco st.e2 λo e=>hk _ o D.l2z D.l2i1 D.l2i2 e
theorem zq6 {z TI TO i1 i2 l1 l2 S:Addr} {xs ys:Array Value} {i:Nat} {Q:Option Value→Shared→Prop} (hh:A.handled=none) (D:ZipApart z TI TO i1 i2 l1 l2) (st:ZSt s.heap z TI TO i1 i2 l1 l2 S xs ys i)
  (hend:xs[i]?=none∨ys[i]?=none) (hQ:∀h',(∀c o,c≠z→c≠TO→c≠i1→c≠i2→s.heap.get? c=some o→h'.get? c=some o)→Q none { s with heap:=h' }) :
  wpAny (model prog w) A (pyNext (.ref z)) Q E s:=by
 rcases st.z0 with ⟨e,hz,a,b,hT⟩|⟨a,f,oa,hz,ha,hSa⟩
 ·exact wpAny_pyNext_zip_end hh D hz st.ti hT st.h1 st.h2 st.e1 st.e2 hend hQ
 ·exact zp0 hh D hz ha st.ti st.h1 st.h2 st.e1 st.e2 hend λh' hk=>hQ h' λc o c1 _ c3 c4 e=>hk c o c1 c3 c4 e
structure ZG (S:Addr) (xs ys:Array Value) (h:Heap) (as:List Addr):Prop where
 rise:as.Pairwise (· < ·)
 above:∀a∈as,S < a
 pairs:∀(j:Nat) a,as[j]?=some a→∃x y,xs[j]?=some x∧ys[j]?=some y∧h.get? a=some { cls:=.type "tuple",data:=.seq #[x,y] }
theorem ZG.there {S:Addr} {xs ys:Array Value} {h:Heap} {as:List Addr} (g:ZG S xs ys h as) {a:Addr} (ha:a∈as):a < h.objs.size:=by
 obtain⟨j,hj⟩:=List.mem_iff_getElem?.mp ha
 obtain⟨_,_,_,_,e⟩:=g.pairs j a hj
 exact Heap.lt_size e
theorem zq4 {z TI TO i1 i2 l1 l2 S:Addr} {xs ys:Array Value} {R:Result→Shared→Prop} (hh:A.handled=none) (D:ZipApart z TI TO i1 i2 l1 l2) (L:ZLow z TI TO i1 i2 l1 l2 S) (n:Nat) (hn1:n=min xs.size ys.size) (hn:n≤sizeLine) (res:Value) {h₁:Heap}
  (hR:∀h' tk acc c as,(∀b o,b≠S→b≠z→b≠TO→b≠i1→b≠i2→h₁.get? b=some o→h'.get? b=some o)→h'.get? S=some { cls:=.type "list",dict:=none,data:=.seq acc c,slots:=#[] }→as.length=n→ZG S xs ys h' as→
   acc.toList=as.map Value.ref→R (.ok (.ret res)) { s with heap:=h',toks:=tk }) :
  ∀(k i:Nat) (h:Heap) (tk c:Nat) (acc:Array Value) (as:List Addr),n - i=k→i≤n→ZSt h z TI TO i1 i2 l1 l2 S xs ys i→(∀b o,b≠S→b≠z→b≠TO→b≠i1→b≠i2→h₁.get? b=some o→h.get? b=some o)→
   h.get? S=some { cls:=.type "list",dict:=none,data:=.seq acc c,slots:=#[] }→acc.toList=as.map Value.ref→as.length=i→ZG S xs ys h as→
   codeAny (model prog w) A (.builtin "list.extend.loop" ⟨[.ref S,.ref z,res],[]⟩) R { s with heap:=h,toks:=tk }:=by
 have hne:S≠z:=Nat.ne_of_gt L.z
 intro k
 induction k with
 | zero =>
  intro i h tk c acc as hk hi hst hkeep hS hacc hal hG
  have hin:i=n:=by omega
  refine codeAny_builtin PySem.F.entry_extend_loop ?_
  rw[Around.under_plainId PySem.F.plain_extend_loop _]
  show wpAny _ A.in1 (pyNext (.ref z) >>= _) _ _ _
  refine wpAny_bind (zq6 (s:={ s with heap:=h,toks:=tk }) (A:=A.in1) hh D hst (by
   rcases Nat.le_total xs.size ys.size with q|q
   ·exact .inl (Array.getElem?_eq_none (by omega))
   ·exact .inr (Array.getElem?_eq_none (by omega))) λh' he=>?_)
  have lo:∀b o,S≤b→h.get? b=some o→h'.get? b=some o:=λb o hb e=>he b o (Nat.ne_of_gt (Nat.lt_of_lt_of_le L.z hb)) (Nat.ne_of_gt (Nat.lt_of_lt_of_le L.TO hb)) (Nat.ne_of_gt (Nat.lt_of_lt_of_le L.i1 hb)) (Nat.ne_of_gt (Nat.lt_of_lt_of_le L.i2 hb)) e
  refine wpAny_pure (hR h' tk acc c as (λb o h1 h2 h3 h4 h5 e=>he b o h2 h3 h4 h5 (hkeep b o h1 h2 h3 h4 h5 e)) (lo S _ (Nat.le_refl _) hS) (by omega) ⟨hG.rise,hG.above,λj a hj=>?_⟩ hacc)
  obtain⟨x,y,e1,e2,e3⟩:=hG.pairs j a hj
  exact⟨x,y,e1,e2,lo a _ (Nat.le_of_lt (hG.above a (List.mem_of_getElem? hj))) e3⟩
 | succ k ih =>
  intro i h tk c acc as hk hi hst hkeep hS hacc hal hG
  have hlt:i < n:=by omega
  have hx:xs[i]?=some xs[i]:=Array.getElem?_eq_getElem (by omega)
  have hy:ys[i]?=some ys[i]:=Array.getElem?_eq_getElem (by omega)
  have hsz:acc.size=i:=by rw[←Array.length_toList,hacc,List.length_map,hal]
  refine codeAny_builtin PySem.F.entry_extend_loop ?_
  rw[Around.under_plainId PySem.F.plain_extend_loop _]
  show wpAny _ A.in1 (pyNext (.ref z) >>= _) _ _ _
  refine wpAny_bind (zq5 (s:={ s with heap:=h,toks:=tk }) D L hst (Heap.lt_size hS) hx hy λh' hst' ht hz hkp=>?_)
  dsimp only at ht hz hkp ⊢
  have lo:∀b o,S≤b→h.get? b=some o→h'.get? b=some o:=λb o hb e=>hkp b o (Nat.ne_of_gt (Nat.lt_of_lt_of_le L.z hb)) (Nat.ne_of_gt (Nat.lt_of_lt_of_le L.TO hb)) (Nat.ne_of_gt (Nat.lt_of_lt_of_le L.i1 hb)) (Nat.ne_of_gt (Nat.lt_of_lt_of_le L.i2 hb)) e
  have hS':=lo S _ (Nat.le_refl _) hS
  have up:∀b o,b≠S→h'.get? b=some o→(h'.update S (Obj.mapSeq (·.push (Value.ref h.objs.size)))).get? b=some o:=λb o hb e=>(Heap.get?_update_other _ _ (Ne.symm hb)).trans e
  have hSl:S < h.objs.size:=Heap.lt_size hS
  show wpAny _ A.in1 (updateSeq S (·.push (Value.ref h.objs.size)) >>= _) _ _ _
  refine wpAny_bind ?_
  refine wpAny_updateSeq hS' rfl (wpAny_pure ⟨plainId_quiet PySem.F.plain_extend_loop _,ih (i+1) _ tk _ (acc.push (Value.ref h.objs.size)) (as++[h.objs.size]) (by omega) hlt (hst'.keep L up)
   (λb o h1 h2 h3 h4 h5 e=>up b o h1 (hkp b o h2 h3 h4 h5 (hkeep b o h1 h2 h3 h4 h5 e))) (Heap.get?_update_self _ hS' rfl) (by rw[Array.toList_push,hacc,List.map_append];rfl) (by rw[List.length_append,hal];rfl) ⟨?_,?_,?_⟩⟩) (by rw[hsz];omega) (by show (acc.push (Value.ref h.objs.size)).size≤sizeLine+1;rw[Array.size_push];omega)
  ·refine List.pairwise_append.mpr ⟨hG.rise,List.pairwise_singleton _ _,λa ha b hb=>?_⟩
   rw[List.mem_singleton.mp hb]
   exact hG.there ha
  ·intro a ha
   rcases List.mem_append.mp ha with ha|ha
   ·exact hG.above a ha
   ·rw[List.mem_singleton.mp ha];exact hSl
  ·intro j b hj
   rcases Nat.lt_trichotomy j as.length with h1|h1|h1
   ·rw[List.getElem?_append_left h1] at hj
    obtain⟨x',y',e1,e2,e3⟩:=hG.pairs j b hj
    have hb:=hG.above b (List.mem_of_getElem? hj)
    exact⟨x',y',e1,e2,up b _ (Nat.ne_of_gt hb) (lo b _ (Nat.le_of_lt hb) e3)⟩
   ·subst h1
    have hb:h.objs.size=b:=by simpa using hj
    subst hb
    exact⟨xs[i],ys[i],by rw[hal];exact hx,by rw[hal];exact hy,up _ _ (Nat.ne_of_gt hSl) ht⟩
   ·have hnone:(as++[h.objs.size])[j]?=none:=List.getElem?_eq_none (by rw[List.length_append,List.length_singleton];omega)
    rw[hnone] at hj;cases hj
theorem zmH:typeLookup (.type "zip") "__len__"=pure none:=by rw[typeLookup_type,builtinLookup_eq_fast];kernel_rfl
theorem zll:typeLookup (.type "zip") "__length_hint__"=pure none:=by rw[typeLookup_type,builtinLookup_eq_fast];kernel_rfl
theorem ZSt.ty {z TI TO i1 i2 l1 l2 S:Addr} {xs ys:Array Value} {i:Nat} (x:ZSt s.heap z TI TO i1 i2 l1 l2 S xs ys i):s.TypeIs (.ref z) "zip":=by
 rcases x.z0 with ⟨e,hz,a,b,hT⟩|⟨a,f,oa,hz,ha,hSa⟩
 ·exact⟨_,hz,rfl⟩
 ·exact⟨_,hz,rfl⟩
theorem znt {z TI TO i1 i2 l1 l2 S:Addr} {xs ys:Array Value} {R:Result→Shared→Prop} (hh:A.handled=none) (D:ZipApart z TI TO i1 i2 l1 l2) (L:ZLow z TI TO i1 i2 l1 l2 S) (st:ZSt s.heap z TI TO i1 i2 l1 l2 S xs ys 0) (hz:IsZip s.heap z TI TO .none)
  (n:Nat) (hn1:n=min xs.size ys.size) (hn:n≤sizeLine) (res:Value) (c₀:Nat) (hS:s.heap.get? S=some { cls:=.type "list",data:=.seq #[] c₀ })
  (hR:∀h' tk acc c as,(∀b o,b≠S→b≠z→b≠TO→b≠i1→b≠i2→s.heap.get? b=some o→h'.get? b=some o)→h'.get? S=some { cls:=.type "list",dict:=none,data:=.seq acc c,slots:=#[] }→as.length=n→ZG S xs ys h' as→
   acc.toList=as.map Value.ref→R (.ok (.ret res)) { s with heap:=h',toks:=tk }) :
  wpAny (model prog w) A.in1 (Builtin.List.listExtendWith (.ref S) (.ref z) res)
   (λfin s'=>match fin with|.done f=>R (.ok f) s'|.again c'=>c'.quiet=true∧codeAny (model prog w) A c' R s') (λe s'=>R (.error e) s') s:=by
 unfold Builtin.List.listExtendWith
 refine wpAny_bind (wpAny_typeOf st.ty ?_)
 have h1:Builtin.List.listSameRef (.ref S) (.ref z)=false:=by simp[Builtin.List.listSameRef,Nat.ne_of_gt L.z]
 have h2:(Value.type "zip" == Value.type "list")=false:=by decide
 have h3:(Value.type "zip" == Value.type "tuple")=false:=by decide
 simp only[h1,h2,h3,Bool.or_false,Bool.false_eq_true,if_false]
 refine wpAny_bind (wpAny_pyIter_zip hz ?_)
 refine wpAny_bind (wpAny_holding ?_)
 unfold Builtin.List.listLengthHint
 refine wpAny_bind (wpAny_specialOf st.ty zmH ?_)
 show wpAny _ A.in1 (specialOf (Value.ref z) (Str.ofString "__length_hint__") >>= _) _ _ _
 refine wpAny_bind (wpAny_specialOf st.ty zll ?_)
 refine wpAny_pure ?_
 show wpAny _ A.in1 (rule "list.extend.makes-room" >>= λ_=>Builtin.List.listTouch (.ref S) >>= λ_ =>
  again (.builtin "list.extend.loop" ⟨[.ref S,.ref z,res],[]⟩)) _ _ _
 refine wpAny_bind (wpAny_rule ?_)
 refine wpAny_bind ?_
 show wpAny _ A.in1 (updateSeq S (·.push .none) >>= λ_=>updateSeq S (·.pop)) _ _ _
 refine wpAny_bind (wpAny_updateSeq hS rfl ?_)
 have hS₂:=Heap.get?_update_self (Obj.mapSeq (·.push Value.none)) hS rfl
 refine wpAny_updateSeq (hz:=by seq_fits) hS₂ rfl ?_
 have hS₃:=Heap.get?_update_self (Obj.mapSeq (·.pop)) hS₂ rfl
 have oth:∀b o,b≠S→s.heap.get? b=some o→((s.heap.update S (Obj.mapSeq (·.push Value.none))).update S (Obj.mapSeq (·.pop))).get? b=some o :=
  λb o hb e=>(Heap.get?_update_other _ _ (Ne.symm hb)).trans ((Heap.get?_update_other _ _ (Ne.symm hb)).trans e)
 refine wpAny_pure ⟨plainId_quiet PySem.F.plain_extend_loop _,zq4 (s:=s) hh D L n hn1 hn res (h₁:=s.heap) hR n 0 _ s.toks _ #[] [] (Nat.sub_zero _) (Nat.zero_le _) (st.keep L oth) (λb o h1 _ _ _ _ e=>oth b o h1 e) hS₃ rfl rfl ⟨List.Pairwise.nil,(λ_ ha=>nomatch ha),(λj a hj=>by simp at hj)⟩⟩
theorem zq7 {z TI TO i1 i2 l1 l2:Addr} {xs ys:Array Value} {Q:Value→Shared→Prop} (hh:A.handled=none) (D:ZipApart z TI TO i1 i2 l1 l2) (L:ZLow z TI TO i1 i2 l1 l2 s.heap.objs.size) (st:ZSt s.heap z TI TO i1 i2 l1 l2 s.heap.objs.size xs ys 0) (hz:IsZip s.heap z TI TO .none)
  (n:Nat) (hn1:n=min xs.size ys.size) (hn:n≤sizeLine)
  (hQ:∀h' tk acc c as,(∀b o,b≠z→b≠TO→b≠i1→b≠i2→s.heap.get? b=some o→h'.get? b=some o)→h'.get? s.heap.objs.size=some { cls:=.type "list",dict:=none,data:=.seq acc c,slots:=#[] }→as.length=n→ZG s.heap.objs.size xs ys h' as→
   acc.toList=as.map Value.ref→Q (.ref s.heap.objs.size) { s with heap:=h',toks:=tk }) :
  wpAny (model prog w) A (call (.type "list") [.ref z]) Q E s:=by
 refine callType_codes (Q₁:=λobj s₁=>obj=.ref s.heap.objs.size∧s₁={ s with heap:=s.heap.push { cls:=.type "list",data:=.seq #[] } }) PySem.F.called_list (PySem.F.typeCall_list_1 _) PySem.F.entry_list_init
  (code_list_new _ ⟨rfl,rfl⟩) λobj s₁ h₁=>?_
 obtain⟨rfl,rfl⟩:=h₁
 have hS:(s.heap.push { cls:=.type "list",data:=.seq #[] }).get? s.heap.objs.size=some { cls:=.type "list",data:=.seq #[] }:=Heap.get?_push_size _ rfl
 refine⟨⟨_,hS,rfl⟩,PySem.F.args_list_init_2 _ _,?_⟩
 show wpAny _ _ (do let old ←Builtin.List.listItems (.ref s.heap.objs.size);Builtin.List.listUpdate (.ref s.heap.objs.size) (λ_=>#[]);letGo old.toList.reverse;Builtin.List.listExtendWith (.ref s.heap.objs.size) (.ref z) .none) _ _ _
 refine wpAny_bind ?_
 unfold Builtin.List.listItems
 refine wpAny_bind (wpAny_seqItems hS rfl (wpAny_pure ?_))
 show wpAny _ _ (updateSeq s.heap.objs.size (λ_=>#[]) >>= λ_=>letGo (#[]:Array Value).toList.reverse >>= λ_=>Builtin.List.listExtendWith (.ref s.heap.objs.size) (.ref z) .none) _ _ _
 refine wpAny_bind (wpAny_updateSeq hS rfl ?_)
 have hS₂:=Heap.get?_update_self (Obj.mapSeq (λ_=>(#[]:Array Value))) hS rfl
 have oth:∀b o,b≠s.heap.objs.size→s.heap.get? b=some o→((s.heap.push { cls:=.type "list",data:=.seq #[] }).update s.heap.objs.size (Obj.mapSeq (λ_=>(#[]:Array Value)))).get? b=some o :=
  λb o hb e=>(Heap.get?_update_other _ _ (Ne.symm hb)).trans (Heap.get?_push_of_some _ e)
 refine wpAny_bind (wpAny_letGo ?_)
 refine znt (A:=A.in1) hh D L (st.keep L oth) (oth _ _ (Nat.ne_of_lt L.z) hz) n hn1 hn .none _ hS₂ λh' tk acc c as hk hS' hl hG hacc=>?_
 exact⟨rfl,hQ h' tk acc c as (λb o h1 h2 h3 h4 e=>hk b o (Nat.ne_of_lt (Heap.lt_size e)) h1 h2 h3 h4 (oth b o (Nat.ne_of_lt (Heap.lt_size e)) e)) hS' hl hG hacc⟩
end
end L2
namespace PySem
theorem Paired.ofGet5 {α β:Type} {R:α→β→Prop}:∀{as:List α} {bs:List β},as.length=bs.length→(∀(j:Nat) a b,as[j]?=some a→bs[j]?=some b→R a b)→Paired R as bs
 | [],[],_,_=>.nil
 | a::as,b::bs,h,f=>.cons (f 0 a b rfl rfl) (Paired.ofGet5 (by simpa using h) λj a b h1 h2=>f (j+1) a b h1 h2)
end PySem
namespace L2
open PySem PySem.Spec PyProof.Rows
section
variable {X:Cx} {pins:List (Addr×Obj)} {σ:St} {H H':Hp} {s:Shared} {h':Heap}
theorem Inv.laidAll {t':Nat} (I:Inv X pins σ H s) (k:∀b u,s.heap.get? b=some u→h'.get? b=some u) (old:∀b,b < s.heap.objs.size→H' b=H b) (new:∀b o,s.heap.objs.size≤b→H' b=some o→ObjOk X.prog X.w H' h' b o):Inv X pins σ H' { s with heap:=h',toks:=t' }:=by
 have eq:∀b o,H b=some o→H' b=some o:=λb o e=>by rw[old b (I.hok.lt e)];exact e
 refine I.un ⟨λb u q _ _ _=>k b u q,λb u q _ _ _=>⟨u.slots,k b u q⟩,λb u q n _=>by rw[old b (Heap.lt_size q)];exact n,λb u q _=>⟨u,k b u q⟩,λb xs e=>eq _ _ e,λb o u e=>eq _ _ e,λb ps e=>⟨#[],by rw[eq _ _ e];simp⟩⟩ λb o e=>?_
 by_cases hb:b < s.heap.objs.size
 ·rw[old b hb] at e
  exact(I.hok b o e).stay (λc u _ q=>k c u q) (λc q=>eq _ _ q) λc xs q=>eq _ _ q
 ·exact new b o (Nat.le_of_not_lt hb) e
theorem zkh {h':Heap} {lo:Nat}:∀(as:List Addr) (rows:List (List V)) (H:Hp),as.Pairwise (· < ·)→(∀a∈as,lo≤a)→Paired (λa xs=>xs.length≤sizeLine∧∃its:List Value,Vals xs its∧IsTup h' a its.toArray) as rows→
  (∀b,lo≤b→H b=none)→∃H':Hp,(∀b,b∉as→H' b=H b)∧Paired (λa xs=>H' a=some (.tup xs)) as rows∧∀b o,lo≤b→H' b=some o→∃xs,o=.tup xs∧xs.length≤sizeLine∧∃its:List Value,Vals xs its∧IsTup h' b its.toArray
 | _,_,H,_,_,.nil,hn=>⟨H,λ_ _=>rfl,.nil,λb o hb e=>by rw[hn b hb] at e;cases e⟩
 | a::as,xs::rows,H,hr,hlo,.cons r t,hn=>by
  obtain⟨hr1,hr2⟩:=List.pairwise_cons.mp hr
  obtain⟨H1,k1,p1,n1⟩:=zkh as rows H hr2 (λb hb=>hlo b (List.mem_cons_of_mem _ hb)) t hn
  have hna:a∉as:=λhm=>Nat.lt_irrefl _ (hr1 a hm)
  refine⟨upd H1 a (.tup xs),λb hb=>?_,.cons za1 ?_,λb o hb e=>?_⟩
  ·rw[za6 (λz=>hb (by rw[z];exact List.mem_cons_self))]
   exact k1 b λz=>hb (List.mem_cons_of_mem _ z)
  ·have:∀{as':List Addr} {rows':List (List V)},(∀b∈as',b≠a)→Paired (λa xs=>H1 a=some (.tup xs)) as' rows'→Paired (λb ys=>upd H1 a (.tup xs) b=some (.tup ys)) as' rows':=by
    intro as' rows' hne p
    induction p with
    | nil=>exact .nil
    | cons r t ih=>exact .cons (by rw[za6 (hne _ List.mem_cons_self)];exact r) (ih λb hb=>hne b (List.mem_cons_of_mem _ hb))
   exact this (λb hb z=>hna (z ▸ hb)) p1
  ·by_cases hb':b=a
   ·subst hb'
    rw[za1] at e
    cases e
    exact⟨xs,rfl,r⟩
   ·rw[za6 hb'] at e
    exact n1 b o hb e
end
theorem zoZ (n a b m:Nat) (hm:m=n+5) (ha:a < n) (hb:b < n):ZLow (n+4) (n+2) (n+3) n (n+1) a b m:=by
 subst hm
 exact⟨(by show n+4 < n+5;omega),(by show n+2 < n+5;omega),(by show n+3 < n+5;omega),(by show n < n+5;omega),(by show n+1 < n+5;omega),(by show a < n+5;omega),(by show b < n+5;omega)⟩
def tListZip (K:PySem.W.Frag) (ta:TA):TE:=λσ H Q=>ta σ H λvs H1=>∃a b xs ys,vs=[.ref a,.ref b]∧SqL K H1 a xs∧SqL K H1 b ys∧
 ∀H2 l ts,(∀c o,H1 c=some o→H2 c=some o)→H1 l=none→H2 l=some (.lst (ts.map V.ref))→Paired (λt zs=>H2 t=some (.tup zs)) ts ((xs.zip ys).map λp=>[p.1,p.2])→Q (.ref l) H2
theorem znp:bootBuiltins "list"=some (.type "list"):=by decide +kernel
theorem zmO {X:Cx} {e e2:Expr} {ta:TA} {p p2 pos pos2:Pos} (hc:X.calm=true) (hg:Gl X "list") (hg2:Gl X "zip") (hm:X.mg "list"=none) (hm2:X.mg "zip"=none) (ha:PA X [e,e2] ta)
  (hs0:starEach [.Call (.Name "zip" p2) [e,e2] [] pos2] X.env=(false,eval (.Call (.Name "zip" p2) [e,e2] [] pos2) X.env)::starEach [] X.env:=by rfl)
  (hs:starEach [e,e2] X.env=(false,eval e X.env)::starEach [e2] X.env:=by rfl) (hpl:(backTo pos2 (starEach [e2] X.env)).any (·.1)=false:=by rfl) :
  PE X (.Call (.Name "list" p) [.Call (.Name "zip" p2) [e,e2] [] pos2] [] pos) (tListZip X.K ta):=by
 intro pins s σ H Q I h
 refine wpAny_Call_Name_kw (zgM I hg hm znp (PyProof.Rows.callWith_type1 ?_ hs0 rfl))
 rw[hs0]
 show wpAny _ _ (spliced ((false,eval (.Call (.Name "zip" p2) [e,e2] [] pos2) X.env)::backTo pos (starEach [] X.env))) _ _ s
 refine Calls.spliced_cons (wpAny_Call_Name_kw (zgM I hg2 hm2 zl7 (PyProof.Rows.callWith_type1 (thn (ha pos2 pins s σ H _ I h) λus s1 ⟨vs,H1,I1,r1,q1⟩=>?_) hs hpl)))
 obtain⟨a,b,xs,ys,ex,hqx,hqy,q⟩:=q1
 subst ex
 cases r1 with
 | cons r rr =>
  cases rr with
  | cons r' rr =>
   cases rr
   cases r
   cases r'
   obtain⟨its,rv,p1,z1⟩:=I1.list hqx
   obtain⟨its2,rv2,p2',z2⟩:=I1.list hqy
   have la:a < s1.heap.objs.size:=p1.lt
   have lb:b < s1.heap.objs.size:=p2'.lt
   have hl1:=rv.length
   have hl2:=rv2.length
   refine call_zip_2 p1.isList p2'.isList λh' hz hTI hTO h1 h2 hsz hk=>Calls.spliced_nil ?_
   have L:ZLow (s1.heap.objs.size+4) (s1.heap.objs.size+2) (s1.heap.objs.size+3) s1.heap.objs.size (s1.heap.objs.size+1) a b h'.objs.size:=zoZ _ _ _ _ hsz la lb
   have D:=PySem.W.ktu_apart s1.heap.objs.size a b la lb
   refine zq7 (s:={ s1 with heap:=h' }) (I.ok.hd hc) D L ⟨.inl ⟨rfl,hz,_,_,hTO⟩,hTI,h1,h2,zco p1.isList λo e=>hk _ o e,zco p2'.isList λo e=>hk _ o e⟩ hz (min its.length its2.length) (by simp) (by omega) λh2' tk acc c as hk2 hS hal hG hacc=>?_
   have hkk:∀b u,s1.heap.get? b=some u→h2'.get? b=some u:=λb u e=>by
    have hlt:=Heap.lt_size e
    exact hk2 b u (Nat.ne_of_lt (Nat.lt_of_lt_of_le hlt (Nat.le_add_right _ _))) (Nat.ne_of_lt (Nat.lt_of_lt_of_le hlt (Nat.le_add_right _ _))) (Nat.ne_of_lt hlt) (Nat.ne_of_lt (Nat.lt_of_lt_of_le hlt (Nat.le_add_right _ _))) (hk b u e)
   have hsz2:({ s1 with heap:=h' }:Shared).heap.objs.size=s1.heap.objs.size+5:=hsz
   have hrow:Paired (λa xs=>xs.length≤sizeLine∧∃its:List Value,Vals xs its∧IsTup h2' a its.toArray) as ((xs.zip ys).map λp=>[p.1,p.2]):=by
    refine PySem.Paired.ofGet5 (by rw[List.length_map,List.length_zip,hal];omega) λj t zs ht hzs=>?_
    obtain⟨u,v,eu,ev,et⟩:=hG.pairs j t ht
    rw[List.getElem?_map] at hzs
    cases ez:(xs.zip ys)[j]? with
    | none=>rw[ez] at hzs;cases hzs
    | some pq =>
     rw[ez] at hzs
     obtain⟨e1,e2⟩:=List.getElem?_zip_eq_some.mp ez
     have hzs:=Option.some.inj hzs
     subst hzs
     obtain⟨u',hu',ru⟩:=rv.get e1
     obtain⟨v',hv',rv'⟩:=rv2.get e2
     have h5:u'=u:=by simpa[hu'] using eu
     have h6:v'=v:=by simpa[hv'] using ev
     subst h5 h6
     exact⟨by show 2≤sizeLine;decide,[u',v'],.cons ru (.cons rv' .nil),⟨_,et,rfl,_,rfl⟩⟩
   have hSge:s1.heap.objs.size≤h'.objs.size:=by rw[hsz];exact Nat.le_add_right _ _
   have hlo:∀a∈as,s1.heap.objs.size≤a:=λa ha=>Nat.le_trans hSge (Nat.le_of_lt (hG.above a ha))
   obtain⟨H2,k2,t2,n2⟩:=zkh (lo:=s1.heap.objs.size) as _ H1 hG.rise hlo hrow λb hb=>I1.hok.fresh hb
   have hSn:h'.objs.size∉as:=λhm=>Nat.lt_irrefl _ (hG.above _ hm)
   have old:∀b,b < s1.heap.objs.size→upd H2 h'.objs.size (.lst (as.map V.ref)) b=H1 b:=λb hb=>by
    rw[za6 (Nat.ne_of_lt (Nat.lt_of_lt_of_le hb hSge)),k2 b λhm=>absurd hb (Nat.not_lt.mpr (hlo b hm))]
   have hvals:Vals (as.map V.ref) acc.toList:=by
    rw[hacc]
    clear hG hacc hal hrow hlo k2 t2 hSn old n2
    induction as with
    | nil=>exact .nil
    | cons a as ih=>exact .cons rfl ih
   have I2:Inv X pins σ (upd H2 h'.objs.size (.lst (as.map V.ref))) { s1 with heap:=h2',toks:=tk }:=by
    refine I1.laidAll hkk old λb o hb e=>?_
    by_cases hbS:b=h'.objs.size
    ·subst hbS
     rw[za1] at e
     cases e
     refine⟨by rw[List.length_map,hal];omega,acc.toList,c,hvals,?_⟩
     rw[Array.toArray_toList]
     exact hS
    ·rw[za6 hbS] at e
     obtain⟨zs,rfl,hzz,hz2⟩:=n2 b o hb e
     exact⟨hzz,hz2⟩
   refine⟨.ref h'.objs.size,_,I2,rfl,q _ h'.objs.size as (λc o e=>?_) (I1.hok.fresh hSge) za1 ?_⟩
   ·rw[old c (I1.hok.lt e)];exact e
   ·have:∀{as':List Addr} {rows':List (List V)},(∀b∈as',b≠h'.objs.size)→Paired (λa xs=>H2 a=some (.tup xs)) as' rows'→Paired (λb ys=>upd H2 h'.objs.size (.lst (as.map V.ref)) b=some (.tup ys)) as' rows':=by
     intro as' rows' hne p
     induction p with
     | nil=>exact .nil
     | cons r t ih=>exact .cons (by rw[za6 (hne _ List.mem_cons_self)];exact r) (ih λb hb=>hne b (List.mem_cons_of_mem _ hb))
    exact this (λb hb z=>hSn (z ▸ hb)) t2
end L2
end
section
namespace Pd
open PySem PySem.Spec PyProof.Rows L2
open Vbpoan (State Point Old Retired codesOf loadsOf isFree pointOf inside spread nsum onPoint)
open VbpoanNeutral (flat)
theorem zoh {a:List Int} (h:∀z∈a,0≤z):intL a=natL (a.map Int.toNat):=by
 show a.map V.int=(a.map Int.toNat).map nat
 rw[List.map_map]
 apply List.map_congr_left
 intro z hz
 show V.int z=V.int ((z.toNat:Nat):Int)
 rw[Int.toNat_of_nonneg (h z hz)]
theorem zip_rows:∀(x y:List Nat),(((natL x).zip (natL y)).map λp=>[p.1,p.2])=(x.zip y).map pairV
 | [],_=>rfl
 | _::_,[]=>rfl
 | a::x,b::y=>by
  have:=zip_rows x y
  exact congrArg (λr=>pairV (a,b)::r) this
theorem zo2 {s:State} {x y:List Nat} (h:Vbpoan.mayBe s x y=true):x.length=y.length∧nsum x=s.points.length:=by
 unfold Vbpoan.mayBe at h
 rw[Bool.and_eq_true,Bool.and_eq_true,Bool.and_eq_true] at h
 exact⟨of_decide_eq_true h.1,of_decide_eq_true h.2.2.1⟩
section
variable {P:Program} {w:World} {K:PySem.W.Frag} {mg:Str→Option Value} {base:Heap} {Ad:Adr}
def zbV:Stmt:=top 71
theorem zcr:FnScope ["town","sizes","codes","number","districts"] ["town","sizes","codes"] (defScope zbV):=⟨rfl,rfl,rfl,by decide +kernel,rfl,by decide +kernel,by decide +kernel⟩
def zdO (Ad:Adr):Sp:=λvs H Q E=>∃t L s n la lb,∃a b:List Int,vs=[.ref t,.ref la,.ref lb]∧TownAt Ad.CP Ad.CT H t L s∧Good n s∧n≤401∧H la=some (.lst (intL a))∧H lb=some (.lst (intL b))∧a.length≤400∧b.length≤400∧KEx Ad H s (.judge a b) E∧KQu H s (.judge a b) Q
theorem zgV (D:DefIn K mg "judge_parting" zbV ["town","sizes","codes"]) (T:Txt K mg Ad) (zg9:Callable P w K mg base 5 "might_be" ["town","sizes","codes"] (zhp Ad.CP Ad.CT)) (zak:Callable P w K mg base 1 "as_row" ["numbers"] zbc)
  (zaY:Callable P w K mg base 2 "count_kept" ["points","districts"] (zcx Ad.CP)):Callable P w K mg base 6 "judge_parting" ["town","sizes","codes"] (zdO Ad):=by
 refine D.ok (k:=5) zcr (λvs H Q E h=>?_) (λf cdv A outer s H vs Q E hr h=>?_)
 ·obtain⟨t,L,s,n,la,lb,a,b,rfl,_⟩:=h;rfl
 ·obtain⟨t,L,st,n,la,lb,a,b,rfl,tw,G,hn,hla,hlb,ha4,hb4,kE,kQ⟩:=h
  have line:sizeLine=16777216:=sizeLine_eq
  obtain⟨dt,fs,et,F⟩:=tw.tw
  have h40:=G.len
  refine⟨_,(za2 (zbB ownP rfl (zaE (pe_op zcQ (pv 1) (pv 2))) (zaj (i:=3) zcr.nd rfl (by first|exact Or.inl rfl|exact Or.inr rfl)) (za5 (ps_if (PW.pt (pw_or (zaf op_lt (pv 3) zae (nomark _)) (zhv (zaf op_gt (pv 3) (zaq rfl T.zgn) (nomark _))))) (za5 (zd8 rfl T.zbQ T.zgN)) zag)))
   (za2 (ps_if (zkp (zgH (pe_fn zg9 (hr.mono (by decide)) rfl passN (za0 (pv 0) (za0 (pv 1) (za0 (pv 2) za4)))))) (za5 (zac (zas (za0 zae za4)))) zag)
   (za2 (zah (i:=4) zcr.nd rfl (by first|exact Or.inl rfl|exact Or.inr rfl) (zmO rfl rfl rfl T.zq3 T.b_zip (za0 (pv 1) (za0 (pv 2) za4))))
   (za5 (zac (pe_op zcQ (zas (za0 zae za4)) (pe_fn zak (hr.mono (by decide)) rfl passN (za0 (zas (za0 (zai zaa rfl T.b_len PySem.boot_len (za0 (pv 4) za4)) (za0 (pe_fn zaY (hr.mono (by decide)) rfl passN (za0 (zab (pv 0) rfl) (za0 (pv 4) za4))) za4))) za4)))))))),?_⟩
  have es:Vbpoan.step st (.judge a b)=if (a++b).all (λn=>inside n 0 1000)=false then Vbpoan.no st 2 else if Vbpoan.mayBe st (a.map Int.toNat) (b.map Int.toNat)=false then Vbpoan.yes st 0 [] else Vbpoan.yes st 1 [Vbpoan.ints [(a.map Int.toNat).length,Vbpoan.keptBy st (spread ((a.map Int.toNat).zip (b.map Int.toNat)))]]:=rfl
  refine⟨_,rfl,_,rfl,la,lb,_,_,rfl,rfl,hla,hlb,by rw[List.length_map,List.length_map];omega,λq hq=>?_⟩
  have s1:∀o:HO,Same H (upd H q o):=λo=>za8 hq
  have eab:intL a++intL b=intL (a++b):=(zbN a b).symm
  refine⟨q,rfl,⟨_,SqL.of za1⟩,zb0 (K:=K) (a:=q) (xs:=intL (a++b))
   (λi σ H'=>∃v,σ=[some (.ref t),some (.ref la),some (.ref lb),v,none]∧H'=upd H q (.lst (intL a++intL b))∧∀(j:Nat) (z:Int),j < i→(a++b)[j]?=some z→inside z 0 1000=true)
   ⟨none,rfl,rfl,λj z hj=>by omega⟩ (λi σ H' _ ⟨_,_,e,_⟩=>by rw[e,eab];exact SqL.of za1) ?_ ?_⟩
  ·rintro i y σ H' hi ⟨v,rfl,rfl,hall⟩
   obtain⟨z,hz,rfl⟩:=int_at hi
   have bad:inside z 0 1000=false→E (.ref Ad.eT) none (upd H q (.lst (intL a++intL b))):=λhb=>by
    refine kE 2 _ _ (es.trans (if_pos ?_)) ref2 (s1 _)
    rw[List.all_eq_false]
    exact⟨z,List.mem_of_getElem? hz,by rw[hb];exact λz=>nomatch z⟩
   refine⟨_,rfl,_,_,rfl,rfl,_,rfl,ite2 (λh1=>?_) (λh1=>?_)⟩
   ·exact iteT (bad (ze6.mpr (.inl (of_decide_eq_true h1))))
   ·have h1:¬ z < 0:=λq=>h1 (decide_eq_true q)
    refine⟨_,rfl,_,_,rfl,rfl,_,rfl,ite2 (λh2=>?_) (λh2=>?_)⟩
    ·exact bad (ze6.mpr (.inr (of_decide_eq_true h2)))
    ·have h2:¬ 1000 < z:=λq=>h2 (decide_eq_true q)
     refine⟨_,rfl,rfl,λj z' hj hz'=>?_⟩
     by_cases ej:j=i
     ·subst ej
      rw[hz] at hz'
      cases hz'
      exact zaD.mpr ⟨by omega,by omega⟩
     ·exact hall j z' (by omega) hz'
  ·rintro σ H' ⟨v,rfl,rfl,hall⟩
   rw[List.length_map] at hall
   have hin:∀z∈a++b,inside z 0 1000=true:=λz hz=>by
    obtain⟨j,hj⟩:=List.getElem?_of_mem hz
    exact hall j z (List.getElem?_eq_some_iff.mp hj).1 hj
   have hall':(a++b).all (λn=>inside n 0 1000)=true:=List.all_eq_true.mpr hin
   rw[if_neg (by rw[hall'];exact λz=>nomatch z)] at es
   have hla':upd H q (.lst (intL a++intL b)) la=some (.lst (natL (a.map Int.toNat))):=by
    rw[←zoh λz hz=>(zaD.mp (hin z (List.mem_append_left _ hz))).1]
    exact s1 _ _ _ hla
   have hlb':upd H q (.lst (intL a++intL b)) lb=some (.lst (natL (b.map Int.toNat))):=by
    rw[←zoh λz hz=>(zaD.mp (hin z (List.mem_append_right _ hz))).1]
    exact s1 _ _ _ hlb
   have hxl:(a.map Int.toNat).length≤400:=by rw[List.length_map];exact ha4
   have hyl:(b.map Int.toNat).length≤400:=by rw[List.length_map];exact hb4
   generalize ex:a.map Int.toNat=x at es hla' hxl
   generalize ey:b.map Int.toNat=y at es hlb' hyl
   unfold KQu at kQ
   rw[es] at kQ
   refine⟨_,rfl,_,rfl,_,rfl,t,L,st,n,la,lb,x,y,rfl,tw.same (s1 _),G,hn,hla',hlb',by omega,λH1 s2=>⟨_,rfl,ite2 (λhc=>?_) (λhc=>?_)⟩⟩
   ·have hc:Vbpoan.mayBe st x y=false:=by simpa using hc
    rw[if_pos hc] at kQ
    refine⟨(by show 1≤sizeLine;decide),λr hr2=>?_⟩
    exact kQ _ r (Same.trans (Same.trans (s1 _) s2) (za8 hr2)) za1
   ·have hc:Vbpoan.mayBe st x y=true:=by simpa using hc
    rw[if_neg (by rw[hc];exact λz=>nomatch z)] at kQ
    obtain⟨hxy,hsum⟩:=zo2 hc
    have sH1:Same H H1:=Same.trans (s1 _) s2
    refine⟨_,rfl,_,rfl,la,lb,_,_,rfl,SqL.of (s2 _ _ hla'),SqL.of (s2 _ _ hlb'),λH2 l ts s3 n3 hl tps=>?_⟩
    rw[zip_rows] at tps
    have tps:TupsAt H2 ts ((x.zip y).map pairV):=tps
    have htl:ts.length=((x.zip y).map pairV).length:=Paired.length tps
    rw[List.length_map,List.length_zip] at htl
    have hsp:(spread (x.zip y)).length≤1000:=by
     rw[zfe,List.map_fst_zip (by omega),hsum]
     omega
    have sH2:Same H H2:=Same.trans sH1 s3
    refine⟨(by show 1≤sizeLine;decide),λu hu=>?_⟩
    have s4:∀o:HO,Same H2 (upd H2 u o):=λo=>za8 hu
    refine⟨_,rfl,l,_,rfl,.inl (SqL.of (s4 _ _ _ hl)),_,rfl,t,Ad.CT,dt,fs,_,rfl,s4 _ _ _ (sH2 _ _ et),T.clCT,T.zap,F.points,_,rfl,L.pl,L.ps,st.points,l,x.zip y,rfl,tw.pts.same (Same.trans sH2 (s4 _)),RowsAt.same ⟨ts,hl,tps⟩ (s4 _),hsp,λH5 s5=>?_⟩
    refine⟨(by show 2≤sizeLine;decide),λc hcn=>?_⟩
    have s6:∀o:HO,Same H5 (upd H5 c o):=λo=>za8 hcn
    refine⟨c,_,rfl,za1,by show 2 < 100000;decide,λH7 d s7 n7 hd=>?_⟩
    refine⟨u,d,_,_,rfl,rfl,s7 _ _ (s6 _ _ _ (s5 _ _ za1)),hd,by show 1+3≤sizeLine;decide,λr hr2=>?_⟩
    refine kQ _ r (Same.trans (Same.trans (Same.trans sH2 (s4 _)) (Same.trans s5 (s6 _))) (Same.trans s7 (za8 hr2))) ?_
    rw[za1,List.length_map,htl,←hxy,Nat.min_self,zhZ (zpw hc)]
    rfl
end
end Pd
end
section
namespace Pd
open PySem PySem.Spec PyProof.Rows L2
open Vbpoan (State Point Old Retired codesOf loadsOf isFree pointOf inside spread nsum onPoint)
open VbpoanNeutral (flat)
structure RdF (fs:List (Str×V)) (l:Addr) (i:Nat):Prop where
 calls:fs.lookup ("calls":Str)=some (.ref l)
 at_:fs.lookup ("at":Str)=some (nat i)
 few:fs.length≤10
 no1:fs.lookup ("has_more":Str)=none
 no2:fs.lookup ("take_number":Str)=none
 no3:fs.lookup ("take_row":Str)=none
theorem RdF.move {fs:List (Str×V)} {l:Addr} {i j:Nat} (F:RdF fs l i):RdF (putF "at" (nat j) fs) l j :=
 ⟨za3 _ (by decide) F.calls,zal _ _ _,by rw[zbJ _ _ _ (by rw[F.at_];rfl)];exact F.few,za3 _ (by decide) F.no1,za3 _ (by decide) F.no2,za3 _ (by decide) F.no3⟩
def LAt (K:PySem.W.Frag) (H:Hp) (l:Addr) (ys:List V):Prop:=(∃o,H l=some (.frz o (.lst ys)))∨
 ∃(o:Obj) (its:Array Value) (n:Nat),K.lookup l=some o∧o.cls=.type "list"∧o.dict=none∧o.data=.seq its n∧its.size≤sizeLine∧Vals ys its.toList
theorem LAt.sq {K:PySem.W.Frag} {H:Hp} {l:Addr} {ys:List V} (x:LAt K H l ys):SqL K H l ys:=x.elim (λh=>.inl (.inr h)) .inr
theorem LAt.kept {K:PySem.W.Frag} {H H':Hp} {l:Addr} {ys:List V} {S:List Addr} (x:LAt K H l ys) (k:Kept S H H') (hl:∀o u,H l=some (.frz o u)→l∉S):LAt K H' l ys:=by
 rcases x with ⟨o,e⟩|x
 ·exact .inl ⟨o,k _ _ e (hl _ _ e)⟩
 ·exact .inr x
structure Src where
 at_:Addr
 xs:List Int
def RdAt (K:PySem.W.Frag) (CR:Addr) (H:Hp) (r:Addr) (l:Src) (u:List Int):Prop:=∃i dx fs,H r=some (.ins CR dx fs)∧RdF fs l.at_ i∧LAt K H l.at_ (intL l.xs)∧l.xs.drop i=u
theorem RdAt.kept {K:PySem.W.Frag} {CR:Addr} {H H':Hp} {r:Addr} {l:Src} {u:List Int} {S:List Addr} (x:RdAt K CR H r l u) (k:Kept S H H') (hr:r∉S) (hl:∀o u,H l.at_=some (.frz o u)→l.at_∉S):RdAt K CR H' r l u:=by
 obtain⟨i,dx,fs,e,F,el,eu⟩:=x
 exact⟨i,dx,fs,k _ _ e hr,F,el.kept k hl,eu⟩
theorem RdAt.same {K:PySem.W.Frag} {CR:Addr} {H H':Hp} {r:Addr} {l:Src} {u:List Int} (x:RdAt K CR H r l u) (k:Same H H'):RdAt K CR H' r l u:=x.kept (S:=[]) (Same.kept _ k) (by simp) (by simp)
theorem LAt.put {K:PySem.W.Frag} {H:Hp} {r l C dx:Addr} {fs:List (Str×V)} {ys:List V} {o':HO} (x:LAt K H l ys) (e:H r=some (.ins C dx fs)):LAt K (upd H r o') l ys :=
 x.kept (S:=[r]) zaG λo u h=>by
  rw[List.mem_singleton]
  intro z
  rw[z,e] at h
  cases h
theorem zoy {xs:List Int} {i:Nat} {v:Int} {u:List Int} (h:xs.drop i=v::u):xs[i]?=some v∧xs.drop (i+1)=u∧i < xs.length:=by
 have hlt:i < xs.length:=by
  by_cases z:i < xs.length
  ·exact z
  ·rw[List.drop_eq_nil_of_le (by omega)] at h;cases h
 rw[List.drop_eq_getElem_cons hlt] at h
 injection h with h1 h2
 exact⟨by rw[List.getElem?_eq_getElem hlt,h1],h2,hlt⟩
section
variable {P:Program} {w:World} {K:PySem.W.Frag} {mg:Str→Option Value} {base:Heap} {Ad:Adr}
def zbv:Stmt:=inClass (top 87) 0
theorem zfr:FnScope ["self","calls"] ["self","calls"] (defScope zbv):=⟨rfl,rfl,rfl,by decide +kernel,rfl,by decide +kernel,by decide +kernel⟩
def zkj (K:PySem.W.Frag) (CR:Addr):Sp:=λvs H Q _=>∃x dx,∃l:Src,vs=[.ref x,.ref l.at_]∧H x=some (.ins CR dx [])∧LAt K H l.at_ (intL l.xs)∧∀H',Kept [x] H H'→RdAt K CR H' x l l.xs→Q .non H'
theorem znU (D:InitIn (K:=K) Ad.CR "Reader.__init__" zbv ["self","calls"]) (T:Txt K mg Ad):MakesIn P w K mg base 1 Ad.CR ["self","calls"] (zkj K Ad.CR):=by
 refine D.ok (k:=0) zfr (λvs H Q E h=>?_) (λf cdv A outer s H vs Q E hr h=>?_)
 ·obtain⟨x,dx,l,rfl,_⟩:=h;rfl
 ·obtain⟨x,dx,l,rfl,hx,hl,k⟩:=h
  refine⟨_,(za2 (zc4 (pv 0) (pv 1) rfl)
   (za5 (zc4 (pv 0) zae rfl))),?_⟩
  refine⟨_,rfl,_,rfl,x,Ad.CR,dx,_,rfl,hx,T.clCR,T.zjv,(by show 0 < 1000;decide),?_⟩
  refine⟨_,rfl,x,Ad.CR,dx,_,rfl,za1,T.clCR,T.r_at,Nat.lt_of_le_of_lt (zaJ (Nat.le_refl 0)) (by decide),?_⟩
  rw[zeJ]
  refine k _ zaG ⟨0,dx,_,za1,⟨za3 _ (by decide) (zal _ _ _),zal _ _ _,Nat.le_trans (zaJ (zaJ (Nat.le_refl 0))) (by decide),za3 _ (by decide) (za3 _ (by decide) rfl),za3 _ (by decide) (za3 _ (by decide) rfl),za3 _ (by decide) (za3 _ (by decide) rfl)⟩,hl.put hx,rfl⟩
def zbu:Stmt:=inClass (top 87) 1
theorem zfq:FnScope ["self"] ["self"] (defScope zbu):=⟨rfl,rfl,rfl,by decide +kernel,rfl,by decide +kernel,by decide +kernel⟩
def zhr (K:PySem.W.Frag) (CR:Addr):Sp:=λvs H Q _=>∃r l u,vs=[.ref r]∧RdAt K CR H r l u∧Q (.bl (decide (u≠[]))) H
theorem zlB (D:MethIn (K:=K) Ad.CR "has_more" "Reader.has_more" zbu ["self"]) (T:Txt K mg Ad):CallableM P w K mg base 1 Ad.CR "has_more" ["self"] (zhr K Ad.CR):=by
 refine D.ok (k:=0) zfq (λvs H Q E h=>?_) (λf cdv A outer s H vs Q E hr h=>?_)
 ·obtain⟨r,l,u,rfl,_⟩:=h;rfl
 ·obtain⟨r,l,u,rfl,⟨i,dx,fs,e,F,el,eu⟩,q⟩:=h
  refine⟨_,(za5 (zac (zfW op_lt (zab (pv 0) rfl) (zai zaa rfl T.b_len PySem.boot_len (za0 (zab (pv 0) rfl) za4)) (nomark _)))),?_⟩
  refine⟨_,rfl,r,Ad.CR,dx,fs,_,rfl,e,T.clCR,T.r_at,F.at_,_,rfl,r,Ad.CR,dx,fs,_,rfl,e,T.clCR,T.zjv,F.calls,l.at_,_,rfl,.inl el.sq,_,_,rfl,rfl,?_⟩
  have ed:decide ((i:Int) < ((intL l.xs).length:Int))=decide (u≠[]):=by
   rw[decide_eq_decide,List.length_map,←eu]
   constructor
   ·intro h z
    have:=congrArg List.length z
    rw[List.length_drop,List.length_nil] at this
    omega
   ·intro h
    by_cases z:i < l.xs.length
    ·omega
    ·exact absurd (List.drop_eq_nil_of_le (by omega)) h
  show Q (.bl (decide ((i:Int) < ((intL l.xs).length:Int)))) H
  rw[ed]
  exact q
def zb3:Stmt:=inClass (top 87) 2
theorem zcj:FnScope ["self","number"] ["self"] (defScope zb3):=⟨rfl,rfl,rfl,by decide +kernel,rfl,by decide +kernel,by decide +kernel⟩
def zby (K:PySem.W.Frag) (CR:Addr):Sp:=λvs H Q _=>∃r l v u,vs=[.ref r]∧RdAt K CR H r l (v::u)∧∀H',Kept [r] H H'→RdAt K CR H' r l u→Q (.int v) H'
theorem ziy (D:MethIn (K:=K) Ad.CR "take_number" "Reader.take_number" zb3 ["self"]) (T:Txt K mg Ad):CallableM P w K mg base 1 Ad.CR "take_number" ["self"] (zby K Ad.CR):=by
 refine D.ok (k:=0) zcj (λvs H Q E h=>?_) (λf cdv A outer s H vs Q E hr h=>?_)
 ·obtain⟨r,l,v,u,rfl,_⟩:=h;rfl
 ·obtain⟨r,l,v,u,rfl,rd,q⟩:=h
  obtain⟨i,dx,fs,e,F,el,eu⟩:=rd
  obtain⟨hv,hu,hlt⟩:=zoy eu
  refine⟨_,(za2 (zah (i:=1) zcj.nd rfl (by first|exact Or.inl rfl|exact Or.inr rfl) (pe_ix zcS (zab (pv 0) rfl) (zab (pv 0) rfl) (λ_ _=>rfl)))
   (za2 (zfu (pv 0) zae zmt)
   (za5 (zac (pv 1))))),?_⟩
  refine⟨_,rfl,r,Ad.CR,dx,fs,_,rfl,e,T.clCR,T.zjv,F.calls,_,rfl,r,Ad.CR,dx,fs,_,rfl,e,T.clCR,T.r_at,F.at_,l.at_,_,(i:Int),.int v,rfl,rfl,el.sq,zkb (by rw[List.getElem?_map,hv];rfl),?_⟩
  refine⟨_,rfl,r,Ad.CR,dx,fs,_,rfl,e,T.clCR,T.r_at,F.at_,_,_,rfl,rfl,dx,fs,e,by have:=F.few;omega,?_⟩
  have ei:V.int ((i:Int)+1)=nat (i+1):=by congr 1
  rw[ei]
  exact⟨_,rfl,q _ zaG ⟨i+1,dx,_,za1,F.move,el.put e,hu⟩⟩
def zbt:Stmt:=inClass (top 87) 3
theorem zbU:FnScope ["self","length","row"] ["self"] (defScope zbt):=⟨rfl,rfl,rfl,by decide +kernel,rfl,by decide +kernel,by decide +kernel⟩
def zho (K:PySem.W.Frag) (CR:Addr):Sp:=λvs H Q _=>∃r l,∃a u:List Int,vs=[.ref r]∧RdAt K CR H r l ((a.length:Int)::(a++u))∧∀H' q,Kept [r] H H'→H q=none→H' q=some (.lst (intL a))→RdAt K CR H' r l u→Q (.ref q) H'
theorem zly (D:MethIn (K:=K) Ad.CR "take_row" "Reader.take_row" zbt ["self"]) (T:Txt K mg Ad) (zad:CallableM P w K mg base 1 Ad.CR "take_number" ["self"] (zby K Ad.CR)):CallableM P w K mg base 2 Ad.CR "take_row" ["self"] (zho K Ad.CR):=by
 refine D.ok (k:=1) zbU (λvs H Q E h=>?_) (λf cdv A outer s H vs Q E hr h=>?_)
 ·obtain⟨r,l,a,u,rfl,_⟩:=h;rfl
 ·obtain⟨r,l,a,u,rfl,rd,k⟩:=h
  have rd0:=rd
  obtain⟨i0,dx0,fs0,e0,F0,el0,eu0⟩:=rd0
  refine⟨_,(za2 (zah (i:=1) zbU.nd rfl (by first|exact Or.inl rfl|exact Or.inr rfl) (zbx zad T.clCR (hr.mono (by decide)) passN (pv 0)))
   (za2 (zah (i:=2) zbU.nd rfl (by first|exact Or.inl rfl|exact Or.inr rfl) (zhe zjo (zab (pv 0) rfl) (zfV (zab (pv 0) rfl)) (zfV (pe_op zcm (zab (pv 0) rfl) (pv 1)))))
   (za2 (zfu (pv 0) (pv 1) zmt)
   (za5 (zac (pv 2)))))),?_⟩
  refine⟨_,rfl,r,dx0,fs0,rfl,e0,F0.no2,r,l,_,_,rfl,rd,λH1 k1 rd1=>?_⟩
  obtain⟨i,dx,fs,e,F,el,eu⟩:=rd1
  refine⟨_,rfl,r,Ad.CR,dx,fs,_,rfl,e,T.clCR,T.zjv,F.calls,_,rfl,r,Ad.CR,dx,fs,_,rfl,e,T.clCR,T.r_at,F.at_,_,rfl,_,rfl,r,Ad.CR,dx,fs,_,rfl,e,T.clCR,T.r_at,F.at_,_,rfl,_,_,rfl,rfl,_,rfl,l.at_,_,rfl,el.sq,λq hq=>?_⟩
  have s2:∀o:HO,Same H1 (upd H1 q o):=λo=>za8 hq
  have nrq:r≠q:=za7 e hq
  refine⟨_,rfl,r,Ad.CR,dx,fs,_,rfl,s2 _ _ _ e,T.clCR,T.r_at,F.at_,_,rfl,_,_,rfl,rfl,dx,fs,s2 _ _ _ e,by have:=F.few;omega,?_⟩
  have ei:V.int ((i:Int)+(a.length:Int))=nat (i+a.length):=by congr 1
  rw[ei]
  have ec:cutV (intL l.xs) (some (i:Int)) (some ((i:Int)+(a.length:Int)))=intL a:=by
   rw[show (i:Int)+(a.length:Int)=((i+a.length:Nat):Int) by omega,zoG _ (by omega),show i+a.length - i=a.length by omega]
   show ((l.xs.map V.int).drop i).take a.length=a.map V.int
   rw[←List.map_drop,←List.map_take,eu,List.take_left]
  rw[ec]
  have hq0:H q=none:=by
   cases z:H q with
   | none=>rfl
   | some o =>
    by_cases zr:q=r
    ·exact absurd zr.symm nrq
    ·rw[k1 _ _ z (by simpa using zr)] at hq;cases hq
  refine⟨_,rfl,k _ q (k1.comp ((Same.kept _ (s2 _)).comp zaG)) hq0 (by rw[za6 (Ne.symm nrq),za1]) ⟨i+a.length,dx,_,za1,F.move,LAt.put (el.kept (S:=[]) (Same.kept _ (s2 _)) (by simp)) (s2 _ _ _ e),?_⟩⟩
  rw[←List.drop_drop,eu,List.drop_left]
end
end Pd
end
section
namespace Pd
open PySem PySem.Spec PyProof.Rows L2
open Vbpoan (State Point Old Retired codesOf loadsOf isFree pointOf inside spread nsum onPoint)
open VbpoanNeutral (flat)
inductive Feed:Nat→List Int→Vbpoan.Call→Prop
 | begin (g c:Int):Feed 0 [g,c] (.begin g c)
 | point (k l:Int):Feed 1 [k,l] (.point k l)
 | load (p l:Int):Feed 2 [p,l] (.load p l)
 | remove (p:Int):Feed 3 [p] (.remove p)
 | cap (c:Int):Feed 4 [c] (.cap c)
 | day (n:Int):Feed 5 [n] (.day n)
 | plan:Feed 6 [] .plan
 | adopt:Feed 7 [] .adopt
 | judge (a b:List Int) (ha:a.length≤400) (hb:b.length≤400):Feed 8 ((a.length:Int)::(a++((b.length:Int)::b))) (.judge a b)
 | code (p:Int):Feed 9 [p] (.code p)
 | district (c:Int):Feed 10 [c] (.district c)
 | read (p:Int) (b:Vbpoan.Bytes):Feed 11 (p::((Vbpoan.bytes b).length:Int)::Vbpoan.bytes b) (.read p b)
 | text (c:Int):Feed 12 [c] (.text c)
 | check (b:Vbpoan.Bytes):Feed 13 (((Vbpoan.bytes b).length:Int)::Vbpoan.bytes b) (.check b)
 | history (p:Int):Feed 14 [p] (.history p)
 | retired:Feed 15 [] .retired
 | row:Feed 16 [] .row
 | free (n:Int):Feed 17 [n] (.free n)
 | counts:Feed 18 [] .counts
theorem zg5:∀b:Vbpoan.Bytes,VbpoanNeutral.bytes? (Vbpoan.bytes b)=some b
 | []=>rfl
 | c::b=>by
  have h1:VbpoanNeutral.byte? (c.toNat:Int)=some c:=by
   unfold VbpoanNeutral.byte?
   rw[if_pos ⟨by omega,by have:=c.toNat_lt;omega⟩,Int.toNat_natCast,UInt8.ofNat_toNat]
  have h2:=zg5 b
  show List.mapM VbpoanNeutral.byte? ((c.toNat:Int)::Vbpoan.bytes b)=_
  rw[List.mapM_cons,h1]
  have h2:List.mapM VbpoanNeutral.byte? (Vbpoan.bytes b)=some b:=h2
  rw[h2]
  rfl
theorem zqD {p:Int} {r t:List Int} {c:List (List Int)} (h:Parsed p r c t) (ha:VbpoanNeutral.asked1 c=true):∃(m:Nat) (args:List Int) (k:Vbpoan.Call),p=(m:Int)∧r=args++t∧Feed m args k∧VbpoanNeutral.callOf c=some k:=by
 cases h with
 | n2 h =>
  rcases h with rfl|rfl|rfl
  ·exact⟨0,[_,_],_,rfl,rfl,.begin _ _,rfl⟩
  ·exact⟨1,[_,_],_,rfl,rfl,.point _ _,rfl⟩
  ·exact⟨2,[_,_],_,rfl,rfl,.load _ _,rfl⟩
 | n1 h =>
  rcases h with rfl|rfl|rfl|rfl|rfl|rfl|rfl|rfl
  ·exact⟨3,[_],_,rfl,rfl,.remove _,rfl⟩
  ·exact⟨4,[_],_,rfl,rfl,.cap _,rfl⟩
  ·exact⟨5,[_],_,rfl,rfl,.day _,rfl⟩
  ·exact⟨9,[_],_,rfl,rfl,.code _,rfl⟩
  ·exact⟨10,[_],_,rfl,rfl,.district _,rfl⟩
  ·exact⟨12,[_],_,rfl,rfl,.text _,rfl⟩
  ·exact⟨14,[_],_,rfl,rfl,.history _,rfl⟩
  ·exact⟨17,[_],_,rfl,rfl,.free _,rfl⟩
 | n0 h =>
  rcases h with rfl|rfl|rfl|rfl|rfl
  ·exact⟨6,[],_,rfl,rfl,.plan,rfl⟩
  ·exact⟨7,[],_,rfl,rfl,.adopt,rfl⟩
  ·exact⟨15,[],_,rfl,rfl,.retired,rfl⟩
  ·exact⟨16,[],_,rfl,rfl,.row,rfl⟩
  ·exact⟨18,[],_,rfl,rfl,.counts,rfl⟩
 | @r2 a b t =>
  have ha:((a.all (λ(z:Int)=>VbpoanNeutral.whole64 z) && decide (a.length≤400)) && (b.all (λ(z:Int)=>VbpoanNeutral.whole64 z) && decide (b.length≤400)))=true:=ha
  rw[Bool.and_eq_true,Bool.and_eq_true,Bool.and_eq_true] at ha
  refine⟨8,_,_,rfl,?_,.judge a b (of_decide_eq_true ha.1.2) (of_decide_eq_true ha.2.2),rfl⟩
  simp
 | @nr x a t =>
  have ha:(VbpoanNeutral.whole64 x && (a.all (λ(z:Int)=>VbpoanNeutral.natural z 8) && decide (a.length≤100)))=true:=ha
  rw[Bool.and_eq_true,Bool.and_eq_true] at ha
  obtain⟨b,rfl⟩:=byteAll ha.2.1
  refine⟨11,_,_,rfl,rfl,.read x b,?_⟩
  show (VbpoanNeutral.bytes? (Vbpoan.bytes b)).map _=_
  rw[zg5]
  rfl
 | @r1 a t =>
  have ha:(a.all (λ(z:Int)=>VbpoanNeutral.natural z 8) && decide (a.length≤100))=true:=ha
  rw[Bool.and_eq_true] at ha
  obtain⟨b,rfl⟩:=byteAll ha.1
  refine⟨13,_,_,rfl,rfl,.check b,?_⟩
  show (VbpoanNeutral.bytes? (Vbpoan.bytes b)).map _=_
  rw[zg5]
  rfl
def KEn (K:PySem.W.Frag) (Ad:Adr) (H:Hp) (r:Addr) (l:Src) (u:List Int) (s:State) (c:Vbpoan.Call) (E:XK):Prop:=∀k C H',Vbpoan.step s c=Vbpoan.no s k→RefOf Ad k C→Kept [r] H H'→RdAt K Ad.CR H' r l u→E (.ref C) none H'
def KAn (K:PySem.W.Frag) (Ad:Adr) (H:Hp) (t:Addr) (L:Lay) (r:Addr) (l:Src) (u:List Int) (s:State) (c:Vbpoan.Call) (Q:VK):Prop :=
 ∀H' p L',Kept (r::L.foot t) H H'→(∀b∈L'.foot t,b∈L.foot t∨H b=none)→RdAt K Ad.CR H' r l u→TownAt Ad.CP Ad.CT H' t L' (Vbpoan.step s c).1→H' p=some (.lst (intL (flat (Vbpoan.step s c).2)))→Q (.ref p) H'
section
variable {CP CT:Addr} {H H':Hp} {t:Addr} {s:State} {L:Lay} {S:List Addr}
theorem TownAt.kept (x:TownAt CP CT H t L s) (k:Kept S H H') (hd:∀b∈S,b∉L.foot t) (hS:∀b∈S,∀xs,H b≠some (.tup xs)):TownAt CP CT H' t L s:=by
 have ht:t∉S:=λz=>hd _ z List.mem_cons_self
 have hpl:L.pl∉S:=λz=>hd _ z (List.mem_cons_of_mem _ List.mem_cons_self)
 have hrl:L.rl∉S:=λz=>hd _ z (List.mem_cons_of_mem _ (List.mem_cons_of_mem _ List.mem_cons_self))
 have h1:∀y∈L.ps,y.1∉S:=λy hy z=>hd _ z (List.mem_cons_of_mem _ (List.mem_cons_of_mem _ (List.mem_cons_of_mem _ (List.mem_append_left _ (List.mem_map.mpr ⟨y,hy,rfl⟩)))))
 have h2:∀y∈L.ps,y.2∉S:=λy hy z=>hd _ z (List.mem_cons_of_mem _ (List.mem_cons_of_mem _ (List.mem_cons_of_mem _ (List.mem_append_right _ (List.mem_map.mpr ⟨y,hy,rfl⟩)))))
 exact⟨x.tw.kept k ht,⟨k _ _ x.pts.lst hpl,Paired.memL x.pts.pt λy hy p _ q=>q.kept k (h1 y hy)⟩,Paired.memL x.had λy hy p _ q=>q.kept k (h2 y hy) hS,x.ret.kept k hrl hS,x.nd1,x.nd2⟩
end
section
variable {K:PySem.W.Frag} {Ad:Adr} {H H1:Hp} {r t:Addr} {l:Src} {u:List Int} {s:State} {c:Vbpoan.Call} {E:XK} {Q:VK} {L:Lay}
theorem TownAt.read {v:List Int} (x:TownAt Ad.CP Ad.CT H t L s) (rd:RdAt K Ad.CR H r l v) (k:Kept [r] H H1) (hr:r∉L.foot t):TownAt Ad.CP Ad.CT H1 t L s:=by
 obtain⟨i,dx,fs,e,_⟩:=rd
 exact x.kept k (λb hb=>by rw[List.mem_singleton.mp hb];exact hr) λb hb ys=>by rw[List.mem_singleton.mp hb,e];exact λz=>nomatch z
theorem TownAt.nofrz (x:TownAt Ad.CP Ad.CT H t L s) {b:Addr} {o:Obj} {u:HO} (h:H b=some (.frz o u)):b∉L.foot t:=λhb=>by
 have hb:b=t∨b=L.pl∨b=L.rl∨b∈L.ps.map (·.1)∨b∈L.ps.map (·.2):=by
  simpa only[Lay.foot,List.mem_cons,List.mem_append] using hb
 rcases hb with z|z|z|z|z
 ·obtain⟨_,_,e,_⟩:=x.tw
  rw[←z,h] at e;cases e
 ·have e:=x.pts.lst
  rw[←z,h] at e;cases e
 ·obtain⟨_,e,_⟩:=x.ret
  rw[←z,h] at e;cases e
 ·obtain⟨y,hy,z⟩:=List.mem_map.mp z
  obtain⟨_,_,_,_,e,_⟩:=Paired.mem1 x.pts.pt hy
  rw[z,h] at e;cases e
 ·obtain⟨y,hy,z⟩:=List.mem_map.mp z
  obtain⟨_,_,_,e,_⟩:=Paired.mem1 x.had hy
  rw[z,h] at e;cases e
theorem KEn.ex (kE:KEn K Ad H r l u s c E) (k:Kept [r] H H1) (rd:RdAt K Ad.CR H1 r l u):KEx Ad H1 s c E:=λn C H' es rf s'=>kE n C H' es rf (k.comp (Same.kept _ s')) (rd.same s')
theorem KAn.ac (kQ:KAn K Ad H t L r l u s c Q) (k:Kept [r] H H1) (rd:RdAt K Ad.CR H1 r l u) (hr:r∉L.foot t) (tw1:TownAt Ad.CP Ad.CT H1 t L s):KAc Ad H1 t L s c Q:=λH' p L' kk ff tw e=>by
 refine kQ H' p L' ((k.mono (by simp)).comp (kk.mono (by intro b hb;exact List.mem_cons_of_mem _ hb))) (λb hb=>(ff b hb).imp id λn=>?_) (rd.kept kk hr λo u h=>tw1.nofrz h) tw e
 cases z:H b with
 | none=>rfl
 | some o =>
  by_cases zr:b=r
  ·obtain⟨i,dx,fs,e,_⟩:=rd
   rw[zr,e] at n;cases n
  ·rw[k _ _ z (by simpa using zr)] at n;cases n
theorem KAn.qu (kQ:KAn K Ad H t L r l u s c Q) (k:Kept [r] H H1) (rd:RdAt K Ad.CR H1 r l u) (tw:TownAt Ad.CP Ad.CT H1 t L s) (hs:(Vbpoan.step s c).1=s):KQu H1 s c Q:=λH' p s' e =>
 kQ H' p L ((k.comp (Same.kept _ s')).mono (by simp)) zdt (rd.same s') (by rw[hs];exact tw.same s') e
theorem zlv {p:Int} {f:Point→State×Vbpoan.Ans} (h:∀x,(f x).1=s):(onPoint s p f).1=s:=by
 unfold onPoint
 split
 ·rfl
 ·split
  ·rfl
  ·exact h _
theorem zqV:(Vbpoan.step s .plan).1=s:=by
 show (match Vbpoan.bestWorth s with|none=>_|some w=>match Vbpoan.plan s with|none=>_|some l=>_:State×Vbpoan.Ans).1=s
 split
 ·rfl
 ·split<;>rfl
theorem zqe {a b:List Int}:(Vbpoan.step s (.judge a b)).1=s:=by
 show (if _ then _ else _:State×Vbpoan.Ans).1=s
 split
 ·rfl
 ·show (if _ then _ else _:State×Vbpoan.Ans).1=s
  split<;>rfl
theorem zqX {p:Int}:(Vbpoan.step s (.code p)).1=s:=zlv λ_=>rfl
theorem zmN {c:Int}:(Vbpoan.step s (.district c)).1=s:=by
 show (if _ then _ else _:State×Vbpoan.Ans).1=s
 split<;>rfl
theorem zqU {p:Int} {b:Vbpoan.Bytes}:(Vbpoan.step s (.read p b)).1=s:=zlv λx=>by
 show (match Vbpoan.readCode b with|none=>_|some c=>_:State×Vbpoan.Ans).1=s
 split<;>rfl
theorem zqT {c:Int}:(Vbpoan.step s (.text c)).1=s:=by
 show (if _ then _ else _:State×Vbpoan.Ans).1=s
 split<;>rfl
theorem zqf {b:Vbpoan.Bytes}:(Vbpoan.step s (.check b)).1=s:=by
 show (match Vbpoan.readCode b with|none=>_|some c=>_:State×Vbpoan.Ans).1=s
 split<;>rfl
theorem znG {p:Int}:(Vbpoan.step s (.history p)).1=s:=zlv λ_=>rfl
theorem zqW {n:Int}:(Vbpoan.step s (.free n)).1=s:=by
 show (if _ then _ else _:State×Vbpoan.Ans).1=s
 split<;>rfl
end
section
variable {P:Program} {w:World} {K:PySem.W.Frag} {mg:Str→Option Value} {base:Heap} {Ad:Adr}
def zbY:Stmt:=top 88
theorem zgS:FnScope ["town","call","reader"] ["town","call","reader"] (defScope zbY):=⟨rfl,rfl,rfl,by decide +kernel,rfl,by decide +kernel,by decide +kernel⟩
def zdR (K:PySem.W.Frag) (Ad:Adr):Sp:=λvs H Q E=>∃t L s n r l,∃m:Nat,∃args u c,vs=[.ref t,.int (m:Int),.ref r]∧TownAt Ad.CP Ad.CT H t L s∧Good n s∧n≤401∧r∉L.foot t∧Feed m args c∧(m≤5∨m=7)∧RdAt K Ad.CR H r l (args++u)∧KEn K Ad H r l u s c E∧KAn K Ad H t L r l u s c Q
theorem zgY (D:DefIn K mg "answer_change" zbY ["town","call","reader"]) (T:Txt K mg Ad) (zad:CallableM P w K mg base 1 Ad.CR "take_number" ["self"] (zby K Ad.CR))
  (ze9:Callable P w K mg base 2 "begin_anew" ["town","grace","cap"] (zfi Ad)) (zf2:Callable P w K mg base 3 "put_point" ["town","place","load"] (zgx Ad))
  (zdK:Callable P w K mg base 3 "change_load" ["town","number","load"] (zeA Ad)) (zdi:Callable P w K mg base 3 "remove_point" ["town","number"] (ze1 Ad))
  (ze8:Callable P w K mg base 2 "change_cap" ["town","cap"] (zfh Ad)) (zf3:Callable P w K mg base 2 "pass_days" ["town","days"] (zgy Ad)) (zea:Callable P w K mg base 7 "adopt_plan" ["town"] (zfj Ad)) :
  Callable P w K mg base 8 "answer_change" ["town","call","reader"] (zdR K Ad):=by
 refine D.ok (k:=7) zgS (λvs H Q E h=>?_) (λf cdv A outer s H vs Q E hr h=>?_)
 ·obtain⟨t,L,s,n,r,l,m,args,u,c,rfl,_⟩:=h;rfl
 ·obtain⟨t,L,st,n,r,l,m,args,u,c,rfl,tw,G,hn,hrf,fd,hm,rd,kE,kQ⟩:=h
  refine⟨_,(za2 (ps_if (zaf op_eq (pv 1) zae (nomark _)) (za5 (zac (pe_fn ze9 (hr.mono (by decide)) rfl (passP λ_ _ _ z=>z) (za0 (pv 0) (za0 (zbx zad T.clCR (hr.mono (by decide)) passN (pv 2)) (za0 (zbx zad T.clCR (hr.mono (by decide)) passN (pv 2)) za4)))))) zag)
   (za2 (ps_if (zaf op_eq (pv 1) zae (nomark _)) (za5 (zac (pe_fn zf2 (hr.mono (by decide)) rfl (passP λ_ _ _ z=>z) (za0 (pv 0) (za0 (zbx zad T.clCR (hr.mono (by decide)) passN (pv 2)) (za0 (zbx zad T.clCR (hr.mono (by decide)) passN (pv 2)) za4)))))) zag)
   (za2 (ps_if (zaf op_eq (pv 1) zae (nomark _)) (za5 (zac (pe_fn zdK (hr.mono (by decide)) rfl (passP λ_ _ _ z=>z) (za0 (pv 0) (za0 (zbx zad T.clCR (hr.mono (by decide)) passN (pv 2)) (za0 (zbx zad T.clCR (hr.mono (by decide)) passN (pv 2)) za4)))))) zag)
   (za2 (ps_if (zaf op_eq (pv 1) zae (nomark _)) (za5 (zac (pe_fn zdi (hr.mono (by decide)) rfl (passP λ_ _ _ z=>z) (za0 (pv 0) (za0 (zbx zad T.clCR (hr.mono (by decide)) passN (pv 2)) za4))))) zag)
   (za2 (ps_if (zaf op_eq (pv 1) zae (nomark _)) (za5 (zac (pe_fn ze8 (hr.mono (by decide)) rfl (passP λ_ _ _ z=>z) (za0 (pv 0) (za0 (zbx zad T.clCR (hr.mono (by decide)) passN (pv 2)) za4))))) zag)
   (za2 (ps_if (zaf op_eq (pv 1) zae (nomark _)) (za5 (zac (pe_fn zf3 (hr.mono (by decide)) rfl (passP λ_ _ _ z=>z) (za0 (pv 0) (za0 (zbx zad T.clCR (hr.mono (by decide)) passN (pv 2)) za4))))) zag)
   (za5 (zac (pe_fn zea (hr.mono (by decide)) rfl (passP λ_ _ _ z=>z) (za0 (pv 0) za4)))))))))),?_⟩
  have rd0:=rd
  obtain⟨i0,dx0,fs0,e0,F0,_⟩:=rd0
  cases fd with
  | begin g c =>
   refine⟨_,rfl,rfl,_,rfl,ite2 (λ_=>?_) (λh=>absurd (decide_eq_true rfl) h)⟩
   refine⟨_,rfl,_,rfl,r,dx0,fs0,rfl,e0,F0.no2,r,l,g,_,rfl,rd,λH1 k1 rd1=>?_⟩
   have rd1':=rd1
   obtain⟨i1,dx1,fs1,e1,F1,_⟩:=rd1'
   refine⟨_,rfl,r,dx1,fs1,rfl,e1,F1.no2,r,l,c,_,rfl,rd1,λH2 k2 rd2=>?_⟩
   have k12:=k1.comp k2
   exact⟨t,L,st,g,c,rfl,tw.read rd k12 hrf,kE.ex k12 rd2,kQ.ac k12 rd2 hrf (tw.read rd k12 hrf)⟩
  | point k lo =>
   refine⟨_,rfl,rfl,_,rfl,ite2 (λh=>absurd (of_decide_eq_true h) (by intro z;injection z with z;omega)) (λ_=>?_)⟩
   refine⟨_,rfl,rfl,_,rfl,ite2 (λ_=>?_) (λh=>absurd (decide_eq_true rfl) h)⟩
   refine⟨_,rfl,_,rfl,r,dx0,fs0,rfl,e0,F0.no2,r,l,k,_,rfl,rd,λH1 k1 rd1=>?_⟩
   have rd1':=rd1
   obtain⟨i1,dx1,fs1,e1,F1,_⟩:=rd1'
   refine⟨_,rfl,r,dx1,fs1,rfl,e1,F1.no2,r,l,lo,_,rfl,rd1,λH2 k2 rd2=>?_⟩
   have k12:=k1.comp k2
   exact⟨t,L,st,n,k,lo,rfl,tw.read rd k12 hrf,G,kE.ex k12 rd2,kQ.ac k12 rd2 hrf (tw.read rd k12 hrf)⟩
  | load p lo =>
   refine⟨_,rfl,rfl,_,rfl,ite2 (λh=>absurd (of_decide_eq_true h) (by intro z;injection z with z;omega)) (λ_=>?_)⟩
   refine⟨_,rfl,rfl,_,rfl,ite2 (λh=>absurd (of_decide_eq_true h) (by intro z;injection z with z;omega)) (λ_=>?_)⟩
   refine⟨_,rfl,rfl,_,rfl,ite2 (λ_=>?_) (λh=>absurd (decide_eq_true rfl) h)⟩
   refine⟨_,rfl,_,rfl,r,dx0,fs0,rfl,e0,F0.no2,r,l,p,_,rfl,rd,λH1 k1 rd1=>?_⟩
   have rd1':=rd1
   obtain⟨i1,dx1,fs1,e1,F1,_⟩:=rd1'
   refine⟨_,rfl,r,dx1,fs1,rfl,e1,F1.no2,r,l,lo,_,rfl,rd1,λH2 k2 rd2=>?_⟩
   have k12:=k1.comp k2
   exact⟨t,L,st,n,p,lo,rfl,tw.read rd k12 hrf,G,kE.ex k12 rd2,kQ.ac k12 rd2 hrf (tw.read rd k12 hrf)⟩
  | remove p =>
   refine⟨_,rfl,rfl,_,rfl,ite2 (λh=>absurd (of_decide_eq_true h) (by intro z;injection z with z;omega)) (λ_=>?_)⟩
   refine⟨_,rfl,rfl,_,rfl,ite2 (λh=>absurd (of_decide_eq_true h) (by intro z;injection z with z;omega)) (λ_=>?_)⟩
   refine⟨_,rfl,rfl,_,rfl,ite2 (λh=>absurd (of_decide_eq_true h) (by intro z;injection z with z;omega)) (λ_=>?_)⟩
   refine⟨_,rfl,rfl,_,rfl,ite2 (λ_=>?_) (λh=>absurd (decide_eq_true rfl) h)⟩
   refine⟨_,rfl,_,rfl,r,dx0,fs0,rfl,e0,F0.no2,r,l,p,_,rfl,rd,λH1 k1 rd1=>?_⟩
   exact⟨t,L,st,n,p,rfl,tw.read rd k1 hrf,G,hn,kE.ex k1 rd1,kQ.ac k1 rd1 hrf (tw.read rd k1 hrf)⟩
  | cap p =>
   refine⟨_,rfl,rfl,_,rfl,ite2 (λh=>absurd (of_decide_eq_true h) (by intro z;injection z with z;omega)) (λ_=>?_)⟩
   refine⟨_,rfl,rfl,_,rfl,ite2 (λh=>absurd (of_decide_eq_true h) (by intro z;injection z with z;omega)) (λ_=>?_)⟩
   refine⟨_,rfl,rfl,_,rfl,ite2 (λh=>absurd (of_decide_eq_true h) (by intro z;injection z with z;omega)) (λ_=>?_)⟩
   refine⟨_,rfl,rfl,_,rfl,ite2 (λh=>absurd (of_decide_eq_true h) (by intro z;injection z with z;omega)) (λ_=>?_)⟩
   refine⟨_,rfl,rfl,_,rfl,ite2 (λ_=>?_) (λh=>absurd (decide_eq_true rfl) h)⟩
   refine⟨_,rfl,_,rfl,r,dx0,fs0,rfl,e0,F0.no2,r,l,p,_,rfl,rd,λH1 k1 rd1=>?_⟩
   exact⟨t,L,st,p,rfl,tw.read rd k1 hrf,kE.ex k1 rd1,kQ.ac k1 rd1 hrf (tw.read rd k1 hrf)⟩
  | day p =>
   refine⟨_,rfl,rfl,_,rfl,ite2 (λh=>absurd (of_decide_eq_true h) (by intro z;injection z with z;omega)) (λ_=>?_)⟩
   refine⟨_,rfl,rfl,_,rfl,ite2 (λh=>absurd (of_decide_eq_true h) (by intro z;injection z with z;omega)) (λ_=>?_)⟩
   refine⟨_,rfl,rfl,_,rfl,ite2 (λh=>absurd (of_decide_eq_true h) (by intro z;injection z with z;omega)) (λ_=>?_)⟩
   refine⟨_,rfl,rfl,_,rfl,ite2 (λh=>absurd (of_decide_eq_true h) (by intro z;injection z with z;omega)) (λ_=>?_)⟩
   refine⟨_,rfl,rfl,_,rfl,ite2 (λh=>absurd (of_decide_eq_true h) (by intro z;injection z with z;omega)) (λ_=>?_)⟩
   refine⟨_,rfl,rfl,_,rfl,ite2 (λ_=>?_) (λh=>absurd (decide_eq_true rfl) h)⟩
   refine⟨_,rfl,_,rfl,r,dx0,fs0,rfl,e0,F0.no2,r,l,p,_,rfl,rd,λH1 k1 rd1=>?_⟩
   exact⟨t,L,st,p,rfl,tw.read rd k1 hrf,kE.ex k1 rd1,kQ.ac k1 rd1 hrf (tw.read rd k1 hrf)⟩
  | adopt =>
   refine⟨_,rfl,rfl,_,rfl,ite2 (λh=>absurd (of_decide_eq_true h) (by intro z;injection z with z;omega)) (λ_=>?_)⟩
   refine⟨_,rfl,rfl,_,rfl,ite2 (λh=>absurd (of_decide_eq_true h) (by intro z;injection z with z;omega)) (λ_=>?_)⟩
   refine⟨_,rfl,rfl,_,rfl,ite2 (λh=>absurd (of_decide_eq_true h) (by intro z;injection z with z;omega)) (λ_=>?_)⟩
   refine⟨_,rfl,rfl,_,rfl,ite2 (λh=>absurd (of_decide_eq_true h) (by intro z;injection z with z;omega)) (λ_=>?_)⟩
   refine⟨_,rfl,rfl,_,rfl,ite2 (λh=>absurd (of_decide_eq_true h) (by intro z;injection z with z;omega)) (λ_=>?_)⟩
   refine⟨_,rfl,rfl,_,rfl,ite2 (λh=>absurd (of_decide_eq_true h) (by intro z;injection z with z;omega)) (λ_=>?_)⟩
   have k0:Kept [r] H H:=Same.kept _ (Same.refl _)
   exact⟨_,rfl,t,L,st,n,rfl,tw,G,hn,kE.ex k0 rd,kQ.ac k0 rd hrf tw⟩
  | _=>omega
end
end Pd
end
section
namespace Pd
open PySem PySem.Spec PyProof.Rows L2
open Vbpoan (State Point Old Retired codesOf loadsOf isFree pointOf inside spread nsum onPoint)
open VbpoanNeutral (flat)
section
variable {P:Program} {w:World} {K:PySem.W.Frag} {mg:Str→Option Value} {base:Heap} {Ad:Adr}
def zbs:Stmt:=top 89
theorem zfp:FnScope ["town","call","reader"] ["town","call","reader"] (defScope zbs):=⟨rfl,rfl,rfl,by decide +kernel,rfl,by decide +kernel,by decide +kernel⟩
def zd0 (K:PySem.W.Frag) (Ad:Adr):Sp:=λvs H Q E=>∃t L s n r l,∃m:Nat,∃args u c,vs=[.ref t,.int (m:Int),.ref r]∧TownAt Ad.CP Ad.CT H t L s∧Good n s∧n≤401∧r∉L.foot t∧Feed m args c∧(m=6∨8≤m)∧RdAt K Ad.CR H r l (args++u)∧KEn K Ad H r l u s c E∧KAn K Ad H t L r l u s c Q
theorem zfB (D:DefIn K mg "answer_question" zbs ["town","call","reader"]) (T:Txt K mg Ad) (zad:CallableM P w K mg base 1 Ad.CR "take_number" ["self"] (zby K Ad.CR)) (zcJ:CallableM P w K mg base 2 Ad.CR "take_row" ["self"] (zho K Ad.CR))
  (zeZ:Callable P w K mg base 7 "tell_plan" ["town"] (zgu Ad)) (zcU:Callable P w K mg base 6 "judge_parting" ["town","sizes","codes"] (zdO Ad)) (zf1:Callable P w K mg base 3 "tell_code" ["town","number"] (zgw Ad))
  (zcT:Callable P w K mg base 2 "tell_district" ["town","code"] (zdN Ad)) (zdg:Callable P w K mg base 4 "tell_reading" ["town","number","text"] (zdZ Ad)) (zeY:Callable P w K mg base 2 "tell_text" ["code"] (zgt Ad))
  (ze7:Callable P w K mg base 3 "check_text" ["text"] zfg) (zdh:Callable P w K mg base 3 "tell_history" ["town","number"] (ze0 Ad)) (zdf:Callable P w K mg base 3 "tell_retired" ["town"] (zdY Ad))
  (zg7:Callable P w K mg base 3 "tell_row" ["town"] (zhn Ad)) (zf0:Callable P w K mg base 5 "tell_free" ["town","wanted"] (zgv Ad)) (zdJ:Callable P w K mg base 2 "tell_counts" ["town"] (zez Ad)) :
  Callable P w K mg base 8 "answer_question" ["town","call","reader"] (zd0 K Ad):=by
 refine D.ok (k:=7) zfp (λvs H Q E h=>?_) (λf cdv A outer s H vs Q E hr h=>?_)
 ·obtain⟨t,L,s,n,r,l,m,args,u,c,rfl,_⟩:=h;rfl
 ·obtain⟨t,L,st,n,r,l,m,args,u,c,rfl,tw,G,hn,hrf,fd,hm,rd,kE,kQ⟩:=h
  refine⟨_,(za2 (ps_if (zaf op_eq (pv 1) zae (nomark _)) (za5 (zac (pe_fn zeZ (hr.mono (by decide)) rfl (passP λ_ _ _ z=>z) (za0 (pv 0) za4)))) zag)
   (za2 (ps_if (zaf op_eq (pv 1) zae (nomark _)) (za5 (zac (pe_fn zcU (hr.mono (by decide)) rfl (passP λ_ _ _ z=>z) (za0 (pv 0) (za0 (zbx zcJ T.clCR (hr.mono (by decide)) passN (pv 2)) (za0 (zbx zcJ T.clCR (hr.mono (by decide)) passN (pv 2)) za4)))))) zag)
   (za2 (ps_if (zaf op_eq (pv 1) zae (nomark _)) (za5 (zac (pe_fn zf1 (hr.mono (by decide)) rfl (passP λ_ _ _ z=>z) (za0 (pv 0) (za0 (zbx zad T.clCR (hr.mono (by decide)) passN (pv 2)) za4))))) zag)
   (za2 (ps_if (zaf op_eq (pv 1) zae (nomark _)) (za5 (zac (pe_fn zcT (hr.mono (by decide)) rfl (passP λ_ _ _ z=>z) (za0 (pv 0) (za0 (zbx zad T.clCR (hr.mono (by decide)) passN (pv 2)) za4))))) zag)
   (za2 (ps_if (zaf op_eq (pv 1) zae (nomark _)) (za5 (zac (pe_fn zdg (hr.mono (by decide)) rfl (passP λ_ _ _ z=>z) (za0 (pv 0) (za0 (zbx zad T.clCR (hr.mono (by decide)) passN (pv 2)) (za0 (zbx zcJ T.clCR (hr.mono (by decide)) passN (pv 2)) za4)))))) zag)
   (za2 (ps_if (zaf op_eq (pv 1) zae (nomark _)) (za5 (zac (pe_fn zeY (hr.mono (by decide)) rfl (passP λ_ _ _ z=>z) (za0 (zbx zad T.clCR (hr.mono (by decide)) passN (pv 2)) za4)))) zag)
   (za2 (ps_if (zaf op_eq (pv 1) zae (nomark _)) (za5 (zac (pe_fn ze7 (hr.mono (by decide)) rfl passN (za0 (zbx zcJ T.clCR (hr.mono (by decide)) passN (pv 2)) za4)))) zag)
   (za2 (ps_if (zaf op_eq (pv 1) zae (nomark _)) (za5 (zac (pe_fn zdh (hr.mono (by decide)) rfl (passP λ_ _ _ z=>z) (za0 (pv 0) (za0 (zbx zad T.clCR (hr.mono (by decide)) passN (pv 2)) za4))))) zag)
   (za2 (ps_if (zaf op_eq (pv 1) zae (nomark _)) (za5 (zac (pe_fn zdf (hr.mono (by decide)) rfl passN (za0 (pv 0) za4)))) zag)
   (za2 (ps_if (zaf op_eq (pv 1) zae (nomark _)) (za5 (zac (pe_fn zg7 (hr.mono (by decide)) rfl passN (za0 (pv 0) za4)))) zag)
   (za2 (ps_if (zaf op_eq (pv 1) zae (nomark _)) (za5 (zac (pe_fn zf0 (hr.mono (by decide)) rfl (passP λ_ _ _ z=>z) (za0 (pv 0) (za0 (zbx zad T.clCR (hr.mono (by decide)) passN (pv 2)) za4))))) zag)
   (za2 (ps_if (zaf op_eq (pv 1) zae (nomark _)) (za5 (zac (pe_fn zdJ (hr.mono (by decide)) rfl passN (za0 (pv 0) za4)))) zag)
   (za5 zpj))))))))))))),?_⟩
  have rd0:=rd
  obtain⟨i0,dx0,fs0,e0,F0,_⟩:=rd0
  have k0:Kept [r] H H:=Same.kept _ (Same.refl _)
  cases fd with
  | plan =>
   refine⟨_,rfl,rfl,_,rfl,ite2 (λ_=>?_) (λh=>absurd (decide_eq_true rfl) h)⟩
   exact⟨_,rfl,t,L,st,n,rfl,tw,G,hn,kE.ex k0 rd,kQ.qu k0 rd tw zqV⟩
  | judge a b ha hb =>
   iterate 1 (refine⟨_,rfl,rfl,_,rfl,ite2 (λh=>absurd (of_decide_eq_true h) (by intro z;injection z with z;omega)) (λ_=>?_)⟩)
   refine⟨_,rfl,rfl,_,rfl,ite2 (λ_=>?_) (λh=>absurd (decide_eq_true rfl) h)⟩
   have rd:RdAt K Ad.CR H r l ((a.length:Int)::(a++((b.length:Int)::(b++u)))):=by
    have e:(a.length:Int)::(a++((b.length:Int)::b))++u=(a.length:Int)::(a++((b.length:Int)::(b++u))):=by simp
    rw[←e];exact rd
   refine⟨_,rfl,_,rfl,r,dx0,fs0,rfl,e0,F0.no3,r,l,a,_,rfl,rd,λH1 qa k1 na hqa rd1=>?_⟩
   have rd1':=rd1
   obtain⟨i1,dx1,fs1,e1,F1,_⟩:=rd1'
   refine⟨_,rfl,r,dx1,fs1,rfl,e1,F1.no3,r,l,b,u,rfl,rd1,λH2 qb k2 nb hqb rd2=>?_⟩
   have k12:=k1.comp k2
   have nqr:qa≠r:=λz=>by rw[z,e0] at na;cases na
   have tw2:=tw.read rd k12 hrf
   exact⟨t,L,st,n,qa,qb,a,b,rfl,tw2,G,hn,k2 _ _ hqa (by simpa using nqr),hqb,ha,hb,kE.ex k12 rd2,kQ.qu k12 rd2 tw2 zqe⟩
  | code p =>
   iterate 2 (refine⟨_,rfl,rfl,_,rfl,ite2 (λh=>absurd (of_decide_eq_true h) (by intro z;injection z with z;omega)) (λ_=>?_)⟩)
   refine⟨_,rfl,rfl,_,rfl,ite2 (λ_=>?_) (λh=>absurd (decide_eq_true rfl) h)⟩
   refine⟨_,rfl,_,rfl,r,dx0,fs0,rfl,e0,F0.no2,r,l,p,_,rfl,rd,λH1 k1 rd1=>?_⟩
   have tw1:=tw.read rd k1 hrf
   exact⟨t,L,st,p,rfl,tw1,kE.ex k1 rd1,kQ.qu k1 rd1 tw1 zqX⟩
  | district p =>
   iterate 3 (refine⟨_,rfl,rfl,_,rfl,ite2 (λh=>absurd (of_decide_eq_true h) (by intro z;injection z with z;omega)) (λ_=>?_)⟩)
   refine⟨_,rfl,rfl,_,rfl,ite2 (λ_=>?_) (λh=>absurd (decide_eq_true rfl) h)⟩
   refine⟨_,rfl,_,rfl,r,dx0,fs0,rfl,e0,F0.no2,r,l,p,_,rfl,rd,λH1 k1 rd1=>?_⟩
   have tw1:=tw.read rd k1 hrf
   exact⟨t,L,st,p,rfl,tw1,G.len,kE.ex k1 rd1,kQ.qu k1 rd1 tw1 zmN⟩
  | read p b =>
   iterate 4 (refine⟨_,rfl,rfl,_,rfl,ite2 (λh=>absurd (of_decide_eq_true h) (by intro z;injection z with z;omega)) (λ_=>?_)⟩)
   refine⟨_,rfl,rfl,_,rfl,ite2 (λ_=>?_) (λh=>absurd (decide_eq_true rfl) h)⟩
   refine⟨_,rfl,_,rfl,r,dx0,fs0,rfl,e0,F0.no2,r,l,p,_,rfl,rd,λH1 k1 rd1=>?_⟩
   have rd1':=rd1
   obtain⟨i1,dx1,fs1,e1,F1,_⟩:=rd1'
   refine⟨_,rfl,r,dx1,fs1,rfl,e1,F1.no3,r,l,Vbpoan.bytes b,u,rfl,rd1,λH2 qb k2 nb hqb rd2=>?_⟩
   have k12:=k1.comp k2
   have tw2:=tw.read rd k12 hrf
   exact⟨t,L,st,n,qb,b,p,rfl,tw2,G,hn,hqb,kE.ex k12 rd2,kQ.qu k12 rd2 tw2 zqU⟩
  | text p =>
   iterate 5 (refine⟨_,rfl,rfl,_,rfl,ite2 (λh=>absurd (of_decide_eq_true h) (by intro z;injection z with z;omega)) (λ_=>?_)⟩)
   refine⟨_,rfl,rfl,_,rfl,ite2 (λ_=>?_) (λh=>absurd (decide_eq_true rfl) h)⟩
   refine⟨_,rfl,r,dx0,fs0,rfl,e0,F0.no2,r,l,p,_,rfl,rd,λH1 k1 rd1=>?_⟩
   have tw1:=tw.read rd k1 hrf
   exact⟨st,p,rfl,kE.ex k1 rd1,kQ.qu k1 rd1 tw1 zqT⟩
  | check b =>
   iterate 6 (refine⟨_,rfl,rfl,_,rfl,ite2 (λh=>absurd (of_decide_eq_true h) (by intro z;injection z with z;omega)) (λ_=>?_)⟩)
   refine⟨_,rfl,rfl,_,rfl,ite2 (λ_=>?_) (λh=>absurd (decide_eq_true rfl) h)⟩
   refine⟨_,rfl,r,dx0,fs0,rfl,e0,F0.no3,r,l,Vbpoan.bytes b,u,rfl,rd,λH2 qb k2 nb hqb rd2=>?_⟩
   have tw2:=tw.read rd k2 hrf
   exact⟨st,qb,b,rfl,hqb,kQ.qu k2 rd2 tw2 zqf⟩
  | history p =>
   iterate 7 (refine⟨_,rfl,rfl,_,rfl,ite2 (λh=>absurd (of_decide_eq_true h) (by intro z;injection z with z;omega)) (λ_=>?_)⟩)
   refine⟨_,rfl,rfl,_,rfl,ite2 (λ_=>?_) (λh=>absurd (decide_eq_true rfl) h)⟩
   refine⟨_,rfl,_,rfl,r,dx0,fs0,rfl,e0,F0.no2,r,l,p,_,rfl,rd,λH1 k1 rd1=>?_⟩
   have tw1:=tw.read rd k1 hrf
   exact⟨t,L,st,n,p,rfl,tw1,G,hn,kE.ex k1 rd1,kQ.qu k1 rd1 tw1 znG⟩
  | retired =>
   iterate 8 (refine⟨_,rfl,rfl,_,rfl,ite2 (λh=>absurd (of_decide_eq_true h) (by intro z;injection z with z;omega)) (λ_=>?_)⟩)
   refine⟨_,rfl,rfl,_,rfl,ite2 (λ_=>?_) (λh=>absurd (decide_eq_true rfl) h)⟩
   have hret:=G.ret
   exact⟨_,rfl,t,L,st,rfl,tw,by omega,kQ.qu k0 rd tw rfl⟩
  | row =>
   iterate 9 (refine⟨_,rfl,rfl,_,rfl,ite2 (λh=>absurd (of_decide_eq_true h) (by intro z;injection z with z;omega)) (λ_=>?_)⟩)
   refine⟨_,rfl,rfl,_,rfl,ite2 (λ_=>?_) (λh=>absurd (decide_eq_true rfl) h)⟩
   exact⟨_,rfl,t,L,st,rfl,tw,G.len,kQ.qu k0 rd tw rfl⟩
  | free p =>
   iterate 10 (refine⟨_,rfl,rfl,_,rfl,ite2 (λh=>absurd (of_decide_eq_true h) (by intro z;injection z with z;omega)) (λ_=>?_)⟩)
   refine⟨_,rfl,rfl,_,rfl,ite2 (λ_=>?_) (λh=>absurd (decide_eq_true rfl) h)⟩
   refine⟨_,rfl,_,rfl,r,dx0,fs0,rfl,e0,F0.no2,r,l,p,_,rfl,rd,λH1 k1 rd1=>?_⟩
   have tw1:=tw.read rd k1 hrf
   exact⟨t,L,st,n,p,rfl,tw1,G,hn,kE.ex k1 rd1,kQ.qu k1 rd1 tw1 zqW⟩
  | counts =>
   iterate 11 (refine⟨_,rfl,rfl,_,rfl,ite2 (λh=>absurd (of_decide_eq_true h) (by intro z;injection z with z;omega)) (λ_=>?_)⟩)
   refine⟨_,rfl,rfl,_,rfl,ite2 (λ_=>?_) (λh=>absurd (decide_eq_true rfl) h)⟩
   exact⟨_,rfl,t,L,st,n,rfl,tw,G,kQ.qu k0 rd tw rfl⟩
  | _=>omega
end
end Pd
end
section
namespace Pd
open PySem PySem.Spec PyProof.Rows L2
open Vbpoan (State Point Old Retired codesOf loadsOf isFree pointOf inside spread nsum onPoint)
open VbpoanNeutral (flat)
structure Txt2 (K:PySem.W.Frag) (mg:Str→Option Value) (A:Adr) (ch:Addr):Prop where
 mgCh:mg "CHANGES"=some (.ref ch)
 sqCh:∀H:Hp,SqT K H ch (natL [0,1,2,3,4,5,7])
 x11:PySem.W.exmOne K (.ref A.eR) (.ref A.eR)=some true
 x21:PySem.W.exmOne K (.ref A.eT) (.ref A.eR)=some false
 x22:PySem.W.exmOne K (.ref A.eT) (.ref A.eT)=some true
 x31:PySem.W.exmOne K (.ref A.eP) (.ref A.eR)=some false
 x32:PySem.W.exmOne K (.ref A.eP) (.ref A.eT)=some false
 x33:PySem.W.exmOne K (.ref A.eP) (.ref A.eP)=some true
 x41:PySem.W.exmOne K (.ref A.eN) (.ref A.eR)=some false
 x42:PySem.W.exmOne K (.ref A.eN) (.ref A.eT)=some false
 x43:PySem.W.exmOne K (.ref A.eN) (.ref A.eP)=some false
 x44:PySem.W.exmOne K (.ref A.eN) (.ref A.eN)=some true
 x51:PySem.W.exmOne K (.ref A.eM) (.ref A.eR)=some false
 x52:PySem.W.exmOne K (.ref A.eM) (.ref A.eT)=some false
 x53:PySem.W.exmOne K (.ref A.eM) (.ref A.eP)=some false
 x54:PySem.W.exmOne K (.ref A.eM) (.ref A.eN)=some false
 x55:PySem.W.exmOne K (.ref A.eM) (.ref A.eM)=some true
section
variable {K:PySem.W.Frag} {Ad:Adr} {H H1:Hp} {r t:Addr} {l:Src} {u v:List Int} {s:State} {c:Vbpoan.Call} {E:XK} {Q:VK} {L:Lay}
theorem KEn.step (kE:KEn K Ad H r l u s c E) (k:Kept [r] H H1):KEn K Ad H1 r l u s c E:=λn C H' es rf s' rd=>kE n C H' es rf (k.comp s') rd
theorem KAn.step (kQ:KAn K Ad H t L r l u s c Q) (k:Kept [r] H H1) (rd:RdAt K Ad.CR H1 r l v):KAn K Ad H1 t L r l u s c Q:=λH' p L' kk ff rd' tw e=>by
 refine kQ H' p L' ((k.mono (by simp)).comp kk) (λb hb=>(ff b hb).imp id λn=>?_) rd' tw e
 cases z:H b with
 | none=>rfl
 | some o =>
  by_cases zr:b=r
  ·obtain⟨i,dx,fs,e,_⟩:=rd
   rw[zr,e] at n;cases n
  ·rw[k _ _ z (by simpa using zr)] at n;cases n
end
theorem zov {m:Nat} {args:List Int} {c:Vbpoan.Call} (h:Feed m args c):m≤18:=by cases h<;>decide
theorem zjg {m:Nat} (h:m≤18):([0,1,2,3,4,5,7]:List Nat).contains m=true↔(m≤5∨m=7):=by
 have:∀k:Fin 19,([0,1,2,3,4,5,7]:List Nat).contains k.1=true↔(k.1≤5∨k.1=7):=by decide
 exact this ⟨m,by omega⟩
section
variable {P:Program} {w:World} {K:PySem.W.Frag} {mg:Str→Option Value} {base:Heap} {Ad:Adr} {ch:Addr}
def zcD:Stmt:=top 90
theorem zeE:FnScope ["town","reader","call"] ["town","reader"] (defScope zcD):=⟨rfl,rfl,rfl,by decide +kernel,rfl,by decide +kernel,by decide +kernel⟩
def zeC (K:PySem.W.Frag) (Ad:Adr):Sp:=λvs H Q E=>∃t L s n r l,∃m:Nat,∃args u c,vs=[.ref t,.ref r]∧TownAt Ad.CP Ad.CT H t L s∧Good n s∧n≤401∧r∉L.foot t∧Feed m args c∧RdAt K Ad.CR H r l ((m:Int)::(args++u))∧KEn K Ad H r l u s c E∧KAn K Ad H t L r l u s c Q
theorem ziC (D:DefIn K mg "answer_call" zcD ["town","reader"]) (T:Txt K mg Ad) (T2:Txt2 K mg Ad ch) (zad:CallableM P w K mg base 1 Ad.CR "take_number" ["self"] (zby K Ad.CR))
  (zcX:Callable P w K mg base 8 "answer_change" ["town","call","reader"] (zdR K Ad)) (zcc:Callable P w K mg base 8 "answer_question" ["town","call","reader"] (zd0 K Ad)) :
  Callable P w K mg base 9 "answer_call" ["town","reader"] (zeC K Ad):=by
 refine D.ok (k:=8) zeE (λvs H Q E h=>?_) (λf cdv A outer s H vs Q E hr h=>?_)
 ·obtain⟨t,L,s,n,r,l,m,args,u,c,rfl,_⟩:=h;rfl
 ·obtain⟨t,L,st,n,r,l,m,args,u,c,rfl,tw,G,hn,hrf,fd,rd,kE,kQ⟩:=h
  refine⟨_,(za2 (zah (i:=2) zeE.nd rfl (by first|exact Or.inl rfl|exact Or.inr rfl) (zbx zad T.clCR (hr.mono (by decide)) passN (pv 1)))
   (za2 (ps_if (zaf zky (pv 2) (znN (v:=.ref ch) rfl T2.mgCh rfl) (by with_unfolding_all rfl)) (za5 (zac (pe_fn zcX (hr.mono (by decide)) rfl (passP λ_ _ _ z=>z) (za0 (pv 0) (za0 (pv 2) (za0 (pv 1) za4)))))) zag)
   (za5 (zac (pe_fn zcc (hr.mono (by decide)) rfl (passP λ_ _ _ z=>z) (za0 (pv 0) (za0 (pv 2) (za0 (pv 1) za4)))))))),?_⟩
  have rd0:=rd
  obtain⟨i0,dx0,fs0,e0,F0,_⟩:=rd0
  refine⟨_,rfl,r,dx0,fs0,rfl,e0,F0.no2,r,l,_,_,rfl,rd,λH1 k1 rd1=>?_⟩
  have tw1:=tw.read rd k1 hrf
  refine⟨_,rfl,ch,_,rfl,.inr (T2.sqCh _),rfl,zfF _,([0,1,2,3,4,5,7]:List Nat).contains m,?_,ite2 (λhc=>?_) (λhc=>?_)⟩
  ·rw[if_neg (λz=>nomatch z)]
   exact congrArg V.bl (zoi _ _)
  ·exact⟨_,rfl,_,rfl,_,rfl,t,L,st,n,r,l,m,args,u,c,rfl,tw1,G,hn,hrf,fd,(zjg (zov fd)).mp hc,rd1,kE.step k1,kQ.step k1 rd1⟩
  ·have hq:m=6∨8≤m:=by
    have:=mt (zjg (zov fd)).mpr hc
    omega
   exact⟨_,rfl,_,rfl,_,rfl,t,L,st,n,r,l,m,args,u,c,rfl,tw1,G,hn,hrf,fd,hq,rd1,kE.step k1,kQ.step k1 rd1⟩
def zba:Stmt:=top 91
theorem zep:FnScope ["town","reader"] ["town","reader"] (defScope zba):=⟨rfl,rfl,rfl,by decide +kernel,rfl,by decide +kernel,by decide +kernel⟩
def zcw (K:PySem.W.Frag) (Ad:Adr):Sp:=λvs H Q _=>∃t L s n r l,∃m:Nat,∃args u c,vs=[.ref t,.ref r]∧TownAt Ad.CP Ad.CT H t L s∧Good n s∧n≤401∧r∉L.foot t∧Feed m args c∧RdAt K Ad.CR H r l ((m:Int)::(args++u))∧KAn K Ad H t L r l u s c Q
def told1 (Ad:Adr) (C:Addr) (D:Ends) (H:Hp):Prop:=∃k:Nat,RefOf Ad k C∧∀p,H p=none→D.rt (.ref p) (upd H p (.lst [.int (-(k:Int))]))
theorem PH.of {X:Cx} {C:Addr} {hs:List ExceptHandler} {t t':TS} (h:PH X C hs t) (w:∀D σ H,t' D σ H→t D σ H):PH X C hs t':=λpins ea s σ H D l q=>h pins ea s σ H D l (w D σ H q)
theorem zqk {X:Cx} {C:Addr} {hs:List ExceptHandler} (h:∀k,RefOf Ad k C→PH X C hs (λD _ H=>∀p,H p=none→D.rt (.ref p) (upd H p (.lst [.int (-(k:Int))])))):PH X C hs (λD _ H=>told1 Ad C D H):=λpins ea s σ H D l ⟨k,rf,q⟩=>h k rf pins ea s σ H D l q
theorem zer (D:DefIn K mg "answer_or_refusal" zba ["town","reader"]) (T:Txt K mg Ad) (T2:Txt2 K mg Ad ch) (zdL:Callable P w K mg base 9 "answer_call" ["town","reader"] (zeC K Ad)) :
  Callable P w K mg base 10 "answer_or_refusal" ["town","reader"] (zcw K Ad):=by
 refine D.ok (k:=9) zep (λvs H Q E h=>?_) (λf cdv A outer s H vs Q E hr h=>?_)
 ·obtain⟨t,L,s,n,r,l,m,args,u,c,rfl,_⟩:=h;rfl
 ·obtain⟨t,L,st,n,r,l,m,args,u,c,rfl,tw,G,hn,hrf,fd,rd,kQ⟩:=h
  refine⟨_,za5 (zqY (λC D H=>told1 Ad C D H) rfl rfl (λpn D=>za5 (zac (pe_fn zdL (hr.mono (by decide)) rfl passTry (za0 (pv 0) (za0 (pv 1) za4))))) (λC=>zqk λk rf=>?_)),?_⟩
  ·have one:1≤sizeLine:=by decide
   rcases rf with ⟨rfl,rfl⟩|⟨rfl,rfl⟩|⟨rfl,rfl⟩|⟨rfl,rfl⟩|⟨rfl,rfl⟩
   ·exact PH.of (zkv rfl T.zbw T2.x11 (λea=>za5 (zac (zas (za0 (pe_un zey zae) za4))))) λD σ H q=>⟨_,rfl,one,q⟩
   ·exact PH.of (zdd rfl T.zbw T2.x21 (zkv rfl T.zbQ T2.x22 (λea=>za5 (zac (zas (za0 (pe_un zey zae) za4)))))) λD σ H q=>⟨_,rfl,one,q⟩
   ·exact PH.of (zdd rfl T.zbw T2.x31 (zdd rfl T.zbQ T2.x32 (zkv rfl T.zci T2.x33 (λea=>za5 (zac (zas (za0 (pe_un zey zae) za4))))))) λD σ H q=>⟨_,rfl,one,q⟩
   ·exact PH.of (zdd rfl T.zbw T2.x41 (zdd rfl T.zbQ T2.x42 (zdd rfl T.zci T2.x43 (zkv rfl T.zhM T2.x44 (λea=>za5 (zac (zas (za0 (pe_un zey zae) za4)))))))) λD σ H q=>⟨_,rfl,one,q⟩
   ·exact PH.of (zdd rfl T.zbw T2.x51 (zdd rfl T.zbQ T2.x52 (zdd rfl T.zci T2.x53 (zdd rfl T.zhM T2.x54 (zkv rfl T.zej T2.x55 (λea=>za5 (zac (zas (za0 (pe_un zey zae) za4))))))))) λD σ H q=>⟨_,rfl,one,q⟩
  ·refine⟨_,rfl,_,rfl,t,L,st,n,r,l,m,args,u,c,rfl,tw,G,hn,hrf,fd,rd,λk C H' es rf k1 rd1=>⟨C,rfl,k,rf,λp hp=>?_⟩,kQ⟩
   unfold KAn at kQ
   rw[es] at kQ
   have s2:Same H' (upd H' p (.lst [.int (-(k:Int))])):=za8 hp
   exact kQ _ p L ((k1.comp (Same.kept _ s2)).mono (by simp)) zdt (rd1.same s2) ((tw.read rd k1 hrf).same s2) za1
end
end Pd
end
section
namespace Pd
open PySem PySem.Spec PyProof.Rows L2
open Vbpoan (State Point Old Retired codesOf loadsOf isFree pointOf inside spread nsum onPoint)
open VbpoanNeutral (flat)
theorem zny (a:List Int) (l:List (List Int)):PyFlat.told (a::l)=((a.length:Int)::a)++PyFlat.told l:=by
 unfold PyFlat.told;rw[List.flatMap_cons]
section
variable {P:Program} {w:World} {K:PySem.W.Frag} {mg:Str→Option Value} {base:Heap} {Ad:Adr} {ch:Addr}
theorem funOkP {x qual:Str} {st:Stmt} {f:Addr} {fd:FuncData} {ps N:List Str} {k:Nat} {sp:Sp} (F:Fun K x qual st f fd) (S:FnScope N ps (defScope st)) (len:∀vs H Q E,sp vs H Q E→vs.length=ps.length)
  (hbody:∀(f:Addr) (cdv:Value) (A:Around) (outer:List Env) (s:Shared) (H:Hp) (vs:List V) (Q:VK) (E:XK),Room k (A.deeper (envOfC qual (defScope st) s.heap.objs.size f cdv))→sp vs H Q E→
   ∃t,PSs (cxP P w K mg base N qual (defScope st) f cdv A outer s H E) (defBody st) t∧t { nx:=λ_ H'=>Q .non H',rt:=Q } (start N vs) H):FnOk P w K mg base (CXP P w) (k+1) f fd ps sp:=by
 obtain⟨oc,od,kV,doc,pm,an,cdv,ct,osl,rfl,lk,hcd⟩:=F.ex
 exact fn_of lk hcd S len λA outer s H vs Q E hr hsp=>hbody f cdv A outer s H vs Q E hr hsp
def zaX:Stmt:=top 92
theorem zdq:FnScope ["calls","town","reader","told","answer"] ["calls"] (defScope zaX):=⟨rfl,rfl,rfl,by decide +kernel,rfl,by decide +kernel,by decide +kernel⟩
def zdo (K:PySem.W.Frag):Sp:=λvs H Q _=>∃l,∃xs:List Int,vs=[.ref l]∧LAt K H l (intL xs)∧PyVbpoan.answers_asked xs=true∧∀H' z,H' z=some (.lst (intL (PyVbpoan.answers xs)))→Q (.ref z) H'
theorem zmR {f0:Addr} {fd:FuncData} (F:Fun K "answers" "answers" zaX f0 fd) (T:Txt K mg Ad) (zom:MakesIn P w K mg base 2 Ad.CT ["self","grace","cap"] (znA Ad.CP Ad.CT)) (zjO:MakesIn P w K mg base 1 Ad.CR ["self","calls"] (zkj K Ad.CR))
  (zgb:CallableM P w K mg base 1 Ad.CR "has_more" ["self"] (zhr K Ad.CR)) (zbP:Callable P w K mg base 10 "answer_or_refusal" ["town","reader"] (zcw K Ad)) :
  FnOk P w K mg base (CXP P w) 11 f0 fd ["calls"] (zdo K):=by
 refine funOkP F (k:=10) zdq (λvs H Q E h=>?_) (λf cdv A outer s H vs Q E hr h=>?_)
 ·obtain⟨l,xs,rfl,_⟩:=h;rfl
 ·obtain⟨l,xs,rfl,hl,hask,kQ⟩:=h
  have line:sizeLine=16777216:=sizeLine_eq
  obtain⟨cs0,hline,h400,hask1,etold⟩:=zns hask
  rw[etold] at kQ
  refine⟨_,(za2 (zah (i:=1) zdq.nd rfl (by first|exact Or.inl rfl|exact Or.inr rfl) (pe_mk zom (hr.mono (by decide)) rfl T.mgTown passN (za0 (zaq rfl T.zk3) (za0 (zaq rfl T.zm4) za4))))
   (za2 (zah (i:=2) zdq.nd rfl (by first|exact Or.inl rfl|exact Or.inr rfl) (pe_mk zjO (hr.mono (by decide)) rfl T.mgReader passN (za0 (pv 0) za4)))
   (za2 (zah (i:=3) zdq.nd rfl (by first|exact Or.inl rfl|exact Or.inr rfl) (zas za4))
   (za2 (zml ownP (zgH (zbx zgb T.clCR (hr.mono (by decide)) passN (pv 2))) (za2 (zah (i:=4) zdq.nd rfl (by first|exact Or.inl rfl|exact Or.inr rfl) (zqn (pe_fn zbP (hr.mono (by decide)) rfl passN (za0 (pv 1) (za0 (pv 2) za4)))))
   (za2 (zaA (pe_bm PySem.F.plainAttrs_list PySem.F.slot_list_append PySem.F.type_list_append zcn (pv 3) (za0 (zai zaa rfl T.b_len PySem.boot_len (za0 (pv 4) za4)) za4)))
   (za5 (zaA (pe_bm PySem.F.plainAttrs_list PySem.F.slot_list_extend PySem.F.type_list_extend zhL (pv 3) (za0 (pv 4) za4)))))))
   (za5 (zac (pv 3))))))),?_⟩
  refine λt dt ht hdt ndt=>⟨t,dt,30,100,rfl,za1,λH1 pl rl k1 n1 n2 tw=>⟨rfl,?_⟩⟩
  have s01:Same H H1:=λb o e=>k1 _ _ (by rw[za6 (za7 e ht),za6 (za7 e hdt)];exact e) (by simpa using za7 e ht)
  have hl1:LAt K H1 l (intL xs):=hl.kept (S:=[]) (Same.kept _ s01) (by simp)
  refine⟨_,rfl,λr dr hrn hdr ndr=>⟨r,dr,⟨l,xs⟩,rfl,za1,?_,λH2 k2 rd=>⟨rfl,?_⟩⟩⟩
  ·exact hl1.kept (S:=[]) (Same.kept _ (Same.trans (za8 hdr) (za8 (by rw[za6 (Ne.symm ndr)];exact hrn)))) (by simp)
  have s12:Same H1 H2:=λb o e=>k2 _ _ (by rw[za6 (za7 e hrn),za6 (za7 e hdr)];exact e) (by simpa using za7 e hrn)
  have tw2:=tw.same s12
  refine⟨Nat.zero_le _,λz hz=>?_⟩
  have s3:Same H2 (upd H2 z (.lst [])):=za8 hz
  have nzr:z≠r:=by obtain⟨_,_,_,e,_⟩:=rd;exact(za7 e hz).symm
  have foot0:∀b∈Lay.foot ⟨pl,rl,[]⟩ t,b=t∨b=pl∨b=rl:=λb hb=>by
   simpa only[Lay.foot,List.map_nil,List.append_nil,List.mem_cons,List.not_mem_nil,or_false] using hb
  have ft1:∃o,H1 t=some o:=by obtain⟨_,_,e,_⟩:=tw.tw;exact⟨_,e⟩
  have ftr:∀b∈Lay.foot ⟨pl,rl,[]⟩ t,∃o,H1 b=some o:=λb hb=>by
   rcases foot0 b hb with q|q|q
   ·rw[q];exact ft1
   ·rw[q];exact⟨_,tw.pts.lst⟩
   ·rw[q];obtain⟨_,e,_⟩:=tw.ret;exact⟨_,e⟩
  have hrf:r∉Lay.foot ⟨pl,rl,[]⟩ t:=λhb=>by obtain⟨o,e⟩:=ftr _ hb;rw[hrn] at e;cases e
  have hzf:z∉Lay.foot ⟨pl,rl,[]⟩ t:=λhb=>by obtain⟨o,e⟩:=ftr _ hb;rw[s12 _ _ e] at hz;cases hz
  refine⟨λm σ H'=>∃(cs:List (List (List Int))) (rest:List Int) (n:Nat) (L:Lay) (st:State) (acc:List Int) (v4:Option V),σ=[some (.ref l),some (.ref t),some (.ref r),some (.ref z),v4]∧m=cs.length∧TownAt Ad.CP Ad.CT H' t L st∧Good n st∧n+cs.length≤400∧
    RdAt K Ad.CR H' r ⟨l,xs⟩ rest∧Line rest cs∧(∀c∈cs,VbpoanNeutral.asked1 c=true)∧r∉L.foot t∧z∉L.foot t∧H' z=some (.lst (intL acc))∧acc.length≤33001 * n∧
    PyFlat.told (PyFlat.played VbpoanNeutral.step VbpoanNeutral.start cs0)=acc++PyFlat.told (PyFlat.played VbpoanNeutral.step st cs),
   ⟨cs0.length,cs0,xs,0,_,_,[],none,rfl,rfl,tw2.same s3,zj8 ⟨by decide,by decide⟩ 0,by omega,rd.same s3,hline,hask1,hrf,hzf,za1,Nat.zero_le _,rfl⟩,?_⟩
  rintro m σ H' ⟨cs,rest,n,L,st,acc,v4,rfl,rfl,twn,G,hnc,rdn,ln,hak,hrf,hzf,hz',hacc,etar⟩
  have rd0:=rdn
  obtain⟨i0,dx0,fs0,e0,F0,el0,_⟩:=rd0
  refine⟨_,rfl,r,dx0,fs0,rfl,e0,F0.no1,r,⟨l,xs⟩,rest,rfl,rdn,_,rfl,ite2 (λhc=>?_) (λhc=>?_)⟩
  ·cases ln with
   | nil=>simp at hc
   | @cons p r' t' c cs' hp h2 =>
    obtain⟨mm,args,k,rfl,rfl,fd,hk⟩:=zqD hp (hak c List.mem_cons_self)
    have hlen:(c::cs').length=cs'.length+1:=rfl
    refine⟨λσ' H''=>∃(n:Nat) (L:Lay) (st:State) (acc:List Int) (v4:Option V),σ'=[some (.ref l),some (.ref t),some (.ref r),some (.ref z),v4]∧TownAt Ad.CP Ad.CT H'' t L st∧Good n st∧n+cs'.length≤400∧
     RdAt K Ad.CR H'' r ⟨l,xs⟩ t'∧r∉L.foot t∧z∉L.foot t∧H'' z=some (.lst (intL acc))∧acc.length≤33001 * n∧
     PyFlat.told (PyFlat.played VbpoanNeutral.step VbpoanNeutral.start cs0)=acc++PyFlat.told (PyFlat.played VbpoanNeutral.step st cs'),?_,?_⟩
    ·rintro σ' H'' ⟨n,L,st,acc,v4,rfl,h1,h3,h4,h5,h6,h8,h9,h10,h11⟩
     exact⟨cs'.length,by omega,cs',t',n,L,st,acc,v4,rfl,rfl,h1,h3,h4,h5,h2,λc' hc'=>hak c' (List.mem_cons_of_mem _ hc'),h6,h8,h9,h10,h11⟩
    refine⟨z,.lst (intL acc),hz',trivial,λod=>?_⟩
    have kz:Kept [z] H' (upd H' z (.frz od (.lst (intL acc)))):=zaG
    have twz:TownAt Ad.CP Ad.CT (upd H' z (.frz od (.lst (intL acc)))) t L st:=twn.kept kz (λb hb=>by rw[List.mem_singleton.mp hb];exact hzf) λb hb ys=>by rw[List.mem_singleton.mp hb,hz'];exact λq=>nomatch q
    have rdz:RdAt K Ad.CR (upd H' z (.frz od (.lst (intL acc)))) r ⟨l,xs⟩ ((mm:Int)::(args++t')):=rdn.kept kz (by simpa using nzr.symm) λo u h=>by
     rw[List.mem_singleton]
     intro e
     rw[e,hz'] at h
     cases h
    refine⟨_,rfl,_,rfl,t,L,st,n,r,⟨l,xs⟩,mm,args,t',k,rfl,twz,G,by omega,hrf,fd,rdz,λH2 q L2 kk ff rd2 tw2 eq=>?_⟩
    have hz2:H2 z=some (.frz od (.lst (intL acc))):=kk _ _ za1 (by
     intro hm
     rcases List.mem_cons.mp hm with e|e
     ·exact nzr e
     ·exact hzf e)
    refine⟨hz2,?_⟩
    have nqz:q≠z:=ne_of eq hz2 λe=>nomatch e
    have hzf2:z∉L2.foot t:=λhm=>by
     rcases ff _ hm with e|e
     ·exact hzf e
     ·rw[za1] at e;cases e
    have hrf2:r∉L2.foot t:=λhm=>by
     rcases ff _ hm with e|e
     ·exact hrf e
     ·rw[za6 nzr.symm,e0] at e;cases e
    have eq3:∀o:HO,upd H2 z o q=some (.lst (intL (flat (Vbpoan.step st k).2))):=λo=>by rw[za6 nqz];exact eq
    have sm:=zqN G (by omega) k
    unfold small at sm
    have h33:33001 * n≤33001 * 399:=Nat.mul_le_mul_left _ (by omega)
    refine⟨_,rfl,.inl ⟨rfl,_,SqL.of za1⟩,_,rfl,q,_,rfl,.inl (SqL.of (eq3 _)),z,_,_,rfl,rfl,za1,by rw[List.length_map];omega,?_⟩
    rw[zeJ]
    refine⟨_,rfl,.inl ⟨rfl,_,SqL.of za1⟩,_,rfl,z,q,_,_,rfl,rfl,za1,eq3 _,?_,?_⟩
    ·rw[List.length_append,List.length_map,List.length_map,List.length_cons,List.length_nil]
     omega
    rw[zeJ]
    have eacc:intL acc++[V.int ((intL (flat (Vbpoan.step st k).2)).length:Int)]++intL (flat (Vbpoan.step st k).2)=intL (acc++(((flat (Vbpoan.step st k).2).length:Int)::flat (Vbpoan.step st k).2)):=by
     rw[zbN,List.length_map,List.append_assoc]
     rfl
    rw[eacc]
    have k3:∀o:HO,Kept [z] H2 (upd H2 z o):=λo=>zaG
    have rdU:∀o:HO,RdAt K Ad.CR (upd H2 z o) r ⟨l,xs⟩ t':=λo=>by
     obtain⟨i2,dx2,fs2,e2,F2,el2,eu2⟩:=rd2
     refine⟨i2,dx2,fs2,by rw[za6 nzr.symm];exact e2,F2,?_,eu2⟩
     rcases hl with ⟨ol,hl0⟩|hK
     ·have nlz:l≠z:=za7 (s12 _ _ (s01 _ _ hl0)) hz
      exact el2.kept (S:=[z]) zaG λ_ _ _=>by simpa using nlz
     ·exact .inr hK
    refine⟨n+1,L2,(Vbpoan.step st k).1,_,some (.ref q),rfl,tw2.kept (k3 _) (λb hb=>by rw[List.mem_singleton.mp hb];exact hzf2) (λb hb ys=>by rw[List.mem_singleton.mp hb,hz2];exact λe=>nomatch e),zon G k,by omega,rdU _,hrf2,hzf2,za1,?_,?_⟩
    ·rw[List.length_append,List.length_cons]
     omega
    ·rw[etar]
     have es:VbpoanNeutral.step st c=((Vbpoan.step st k).1,flat (Vbpoan.step st k).2):=by
      unfold VbpoanNeutral.step
      rw[hk]
     show acc++PyFlat.told ((VbpoanNeutral.step st c).2::PyFlat.played VbpoanNeutral.step (VbpoanNeutral.step st c).1 cs')=_
     rw[zny,es,List.append_assoc]
  ·cases ln with
   | @cons p r' t' c cs' hp h2=>simp at hc
   | nil =>
    refine⟨_,rfl,kQ H' z ?_⟩
    rw[hz',etar]
    show _=some (HO.lst (intL (acc++[])))
    rw[List.append_nil]
end
end Pd
end
section
section
namespace L2
open PySem PySem.Spec PyProof.Rows
open PySem.W (WData Codec OpenSpec Well WellAll ReadsW ReadsAllW)
mutual
inductive Dw (K:PySem.W.Frag) (H:Hp):V→WData→Prop
 | non:Dw K H .non .none
 | bl (b:Bool):Dw K H (.bl b) (.bool b)
 | int (i:Int):Dw K H (.int i) (.int i)
 | str (x:Str):Dw K H (.str x) (.str x)
 | byt (b:Array UInt8):Dw K H (.byt b) (.bytes b.toList)
 | lst {a:Addr} {xs:List V} {ds:List WData}:SqL K H a xs→DwAll K H xs ds→Dw K H (.ref a) (.list ds)
 | tup {a:Addr} {xs:List V} {ds:List WData}:SqT K H a xs→DwAll K H xs ds→Dw K H (.ref a) (.tuple ds)
inductive DwAll (K:PySem.W.Frag) (H:Hp):List V→List WData→Prop
 | nil:DwAll K H [] []
 | cons {v:V} {vs:List V} {d:WData} {ds:List WData}:Dw K H v d→DwAll K H vs ds→DwAll K H (v::vs) (d::ds)
end
theorem zox {K:PySem.W.Frag} {H:Hp}:∀ns:List Int,DwAll K H (ns.map V.int) (ns.map WData.int)
 | []=>.nil
 | n::r=>.cons (.int n) (zox r)
theorem zog {K:PySem.W.Frag} {H:Hp}:∀(ns:List Int) (xs:List V),DwAll K H xs (ns.map WData.int)→xs=ns.map V.int
 | [],xs,h=>by
  cases h
  rfl
 | n::r,xs,h=>by
  cases h with
  | cons h1 h2 =>
   cases h1
   rw[zog r _ h2]<;>rfl
section
variable {P:Program} {w:World} {K:PySem.W.Frag} {H:Hp} {h:Heap} {R:PySem.W.WRecords} {cl:Str→Option Addr}
theorem zqS {a:Addr} {xs:List V} (hok:HOk P w H h) (KX:K.In h) (q:SqL K H a xs):∃(its:List Value) (o:Obj) (n:Nat),Vals xs its∧h.get? a=some o∧o.cls=.type "list"∧o.data=.seq its.toArray n:=by
 rcases q with q|⟨o,its,n,e,hc,_,hd,_,hv⟩
 ·obtain⟨_,its,n,hv,e⟩:=(show ObjOk P w H h a (.lst xs) from q.ok hok)
  exact⟨its,_,n,hv,e,rfl,rfl⟩
 ·exact⟨its.toList,o,n,hv,KX _ _ e,hc,by simp[hd]⟩
theorem zqR {a:Addr} {xs:List V} (hok:HOk P w H h) (KX:K.In h) (q:SqT K H a xs):∃(its:List Value) (o:Obj) (n:Nat),Vals xs its∧h.get? a=some o∧o.cls=.type "tuple"∧o.data=.seq its.toArray n:=by
 rcases q with q|⟨o,its,n,e,hc,hd,_,hv⟩
 ·obtain⟨_,its,hv,o,e,hc,n,hd⟩:=(show ObjOk P w H h a (.tup xs) from q.ok hok)
  exact⟨its,o,n,hv,e,hc,hd⟩
 ·exact⟨its.toList,o,n,hv,KX _ _ e,hc,by simp[hd]⟩
mutual
theorem Dw.reads (hok:HOk P w H h) (KX:K.In h):∀(d:WData) (v:V) (u:Value),Dw K H v d→RelV v u→∃as,ReadsW R cl h u d as
 | .none,_,_,x,r=>by
  cases x
  cases r
  exact⟨_,ReadsW.none⟩
 | .bool b,_,_,x,r=>by
  cases x
  cases r
  exact⟨_,ReadsW.bool b⟩
 | .int i,_,_,x,r=>by
  cases x
  obtain⟨t,rfl⟩:=r
  exact⟨_,ReadsW.int i t⟩
 | .str s,_,_,x,r=>by
  cases x
  obtain⟨t,rfl⟩:=r
  exact⟨_,ReadsW.str s t⟩
 | .bytes b,_,_,x,r=>by
  cases x
  obtain⟨t,rfl⟩:=r
  exact⟨_,ReadsW.bytes _ t⟩
 | .list ds,_,_,x,r=>by
  cases x with
  | lst hs ha =>
   cases r
   obtain⟨its,o,n,rv,ho,hc,hd⟩:=zqS hok KX hs
   obtain⟨as,hr⟩:=Dw.readsAll hok KX ds _ its ha rv
   exact⟨_,ReadsW.list ho hc hd hr⟩
 | .tuple ds,_,_,x,r=>by
  cases x with
  | tup hs ha =>
   cases r
   obtain⟨its,o,n,rv,ho,hc,hd⟩:=zqR hok KX hs
   obtain⟨as,hr⟩:=Dw.readsAll hok KX ds _ its ha rv
   exact⟨_,ReadsW.tuple ho hc hd hr⟩
 | .float _,_,_,x,_=>by cases x
 | .dict _,_,_,x,_=>by cases x
 | .bytearray _,_,_,x,_=>by cases x
 | .set _,_,_,x,_=>by cases x
 | .frozenset _,_,_,x,_=>by cases x
 | .obj _ _,_,_,x,_=>by cases x
theorem Dw.readsAll (hok:HOk P w H h) (KX:K.In h):∀(ds:List WData) (vs:List V) (us:List Value),DwAll K H vs ds→Vals vs us→∃as,ReadsAllW R cl h us ds as
 | [],_,_,x,r=>by
  cases x
  cases r
  exact⟨_,ReadsAllW.nil⟩
 | d::ds,_,_,x,r=>by
  cases x with
  | cons h1 h2 =>
   cases r with
   | cons r1 r2 =>
    obtain⟨as,q1⟩:=Dw.reads hok KX d _ _ h1 r1
    obtain⟨bs,q2⟩:=Dw.readsAll hok KX ds _ _ h2 r2
    exact⟨_,ReadsAllW.cons q1 q2⟩
end
end
mutual
def plW:WData→Bool
 | .none=>true
 | .bool _=>true
 | .int _=>true
 | .str _=>true
 | .bytes _=>true
 | .list xs=>plWs xs
 | .tuple xs=>plWs xs
 | _=>false
def plWs:List WData→Bool
 | []=>true
 | x::r=>plW x && plWs r
end
theorem zmm {α:Type} {f:α→WData} (h:∀a,plW (f a)=true):∀l:List α,plWs (l.map f)=true
 | []=>rfl
 | x::r=>by
  show (plW (f x) && plWs (r.map f))=true
  rw[h x,zmm h r]<;>rfl
theorem zgI:∀(c:Codec) (a:c.denote),plW (c.enc a)=true
 | .unit,_=>rfl
 | .bool,_=>rfl
 | .int _ _,_=>rfl
 | .nat _ _,_=>rfl
 | .u8,_=>rfl
 | .bytes _ _,_=>rfl
 | .text _ _ _ _,_=>rfl
 | .list _ _ c,a=>zmm (λx=>zgI c x) a
 | .pair c d,a=>by
  show (plW (c.enc a.1) && (plW (d.enc a.2) && true))=true
  rw[zgI c a.1,zgI d a.2]<;>rfl
 | .triple c d e,a=>by
  show (plW (c.enc a.1) && (plW (d.enc a.2.1) && (plW (e.enc a.2.2) && true)))=true
  rw[zgI c a.1,zgI d a.2.1,zgI e a.2.2]<;>rfl
 | .option c,none=>rfl
 | .option c,some x=>zgI c x
theorem zks:∀(cs:List Codec) (a:Codec.denoteAll cs),plWs (Codec.encAll cs a)=true
 | [],_=>rfl
 | c::cs,a=>by
  show (plW (c.enc a.1) && plWs (Codec.encAll cs a.2))=true
  rw[zgI c a.1,zks cs a.2]<;>rfl
theorem zfQ:∀{xs:List WData} {d:WData},d∈xs→d.weight≤WData.weightAll xs
 | [],d,h=>absurd h (by simp)
 | x::r,d,h=>by
  show d.weight≤x.weight+1+WData.weightAll r
  rcases List.mem_cons.mp h with e|m
  ·rw[e]
   omega
  ·have z:=zfQ m
   omega
def toV:Value→V
 | .none=>.non
 | .bool b=>.bl b
 | .int i _=>.int i
 | .str x _=>.str x
 | .bytes b _=>.byt b
 | .ref a=>.ref a
 | _=>.non
def OkU (A:List Addr):Value→Prop
 | .none=>True
 | .bool _=>True
 | .int _ _=>True
 | .str _ _=>True
 | .bytes _ _=>True
 | .ref a=>a∈A
 | _=>False
theorem OkU.mono {A B:List Addr} (h:∀a∈A,a∈B):∀{u:Value},OkU A u→OkU B u:=λ{u} x=>by
 cases u with
 | ref a=>exact h a x
 | none=>trivial
 | bool b=>trivial
 | int i t=>trivial
 | str s t=>trivial
 | bytes b t=>trivial
 | _=>exact False.elim x
theorem zpd {A:List Addr} {u:Value} (x:OkU A u):RelV (toV u) u:=by
 cases u with
 | ref a=>rfl
 | none=>rfl
 | bool b=>rfl
 | int i t=>exact⟨t,rfl⟩
 | str s t=>exact⟨t,rfl⟩
 | bytes b t=>exact⟨t,rfl⟩
 | _=>exact False.elim x
theorem zef {A:List Addr}:∀{vs:List Value},(∀u∈vs,OkU A u)→Vals (vs.map toV) vs
 | [],_=>.nil
 | u::r,h=>.cons (zpd (h u (List.mem_cons_self ..))) (zef λx hx=>h x (List.mem_cons_of_mem _ hx))
def ArgOb (h:Heap) (A:List Addr) (a:Addr):Prop:=∃vs:List Value,vs.length≤sizeLine∧(∀u∈vs,OkU A u)∧
 (h.get? a=some { cls:=.type "list",data:=.seq vs.toArray }∨h.get? a=some { cls:=.type "tuple",data:=.seq vs.toArray })
theorem ArgOb.mono {h:Heap} {A B:List Addr} {a:Addr} (k:∀a∈A,a∈B) (x:ArgOb h A a):ArgOb h B a:=by
 obtain⟨vs,h1,h2,h3⟩:=x
 exact⟨vs,h1,λu hu=>(h2 u hu).mono k,h3⟩
theorem zdv {P:Params} {h:Heap}:∀{vs:List Value} {ds:List WData},WellAll P h vs ds→vs.length=ds.length
 | _,_,.nil=>rfl
 | _,_,.cons _ b=>by
  show _+1=_+1
  rw[zdv b]
theorem zke {P:Params} {h:Heap} {v:Value} {ds:List WData} (x:Well P h v (.list ds)):∃(a:Addr) (vs:List Value),v=.ref a∧h.get? a=some { cls:=.type "list",data:=.seq vs.toArray }∧WellAll P h vs ds:=by
 cases x with
 | list ho hall=>exact⟨_,_,rfl,ho,hall⟩
theorem ziY {P:Params} {h:Heap} {v:Value} {ds:List WData} (x:Well P h v (.tuple ds)):∃(a:Addr) (vs:List Value),v=.ref a∧h.get? a=some { cls:=.type "tuple",data:=.seq vs.toArray }∧WellAll P h vs ds:=by
 cases x with
 | tuple ho hall=>exact⟨_,_,rfl,ho,hall⟩
theorem zkf {P:Params} {h:Heap} {us:List Value} {d:WData} {ds:List WData} (x:WellAll P h us (d::ds)):∃(v:Value) (vs:List Value),us=v::vs∧Well P h v d∧WellAll P h vs ds:=by
 cases x with
 | cons a b=>exact⟨_,_,rfl,a,b⟩
theorem zhV {n:Nat} (h:n≤1048576):n≤sizeLine:=Nat.le_trans h (by decide)
section
variable {P:Params} {h:Heap}
mutual
theorem zpV:∀(d:WData) (v:Value),Well P h v d→plW d=true→d.weight≤1048576→∃A:List Addr,OkU A v∧∀a∈A,ArgOb h A a
 | .none,_,x,_,_=>by
  cases x
  exact⟨[],trivial,λa m=>absurd m (by simp)⟩
 | .bool b,_,x,_,_=>by
  cases x
  exact⟨[],trivial,λa m=>absurd m (by simp)⟩
 | .int i,_,x,_,_=>by
  cases x
  exact⟨[],trivial,λa m=>absurd m (by simp)⟩
 | .str s,_,x,_,_=>by
  cases x
  exact⟨[],trivial,λa m=>absurd m (by simp)⟩
 | .bytes b,_,x,_,_=>by
  cases x
  exact⟨[],trivial,λa m=>absurd m (by simp)⟩
 | .list ds,_,x,p,z=>by
  obtain⟨a,vs,rfl,ho,hall⟩:=zke x
  have z2:WData.weightAll ds≤1048576:=z
  obtain⟨A,h1,h2⟩:=zhg ds _ hall p λd hd=>Nat.le_trans (zfQ hd) z2
  have k:∀b∈A,b∈a::A:=λb hb=>List.mem_cons_of_mem _ hb
  refine⟨a::A,List.mem_cons_self ..,λb hb=>?_⟩
  rcases List.mem_cons.mp hb with e|m
  ·rw[e]
   exact⟨vs,zhV (by rw[zdv hall];exact Nat.le_trans (PySem.W.length_le_weightAllW ds) z2),λu hu=>(h1 u hu).mono k,.inl ho⟩
  ·exact(h2 b m).mono k
 | .tuple ds,_,x,p,z=>by
  obtain⟨a,vs,rfl,ho,hall⟩:=ziY x
  have z2:WData.weightAll ds≤1048576:=z
  obtain⟨A,h1,h2⟩:=zhg ds _ hall p λd hd=>Nat.le_trans (zfQ hd) z2
  have k:∀b∈A,b∈a::A:=λb hb=>List.mem_cons_of_mem _ hb
  refine⟨a::A,List.mem_cons_self ..,λb hb=>?_⟩
  rcases List.mem_cons.mp hb with e|m
  ·rw[e]
   exact⟨vs,zhV (by rw[zdv hall];exact Nat.le_trans (PySem.W.length_le_weightAllW ds) z2),λu hu=>(h1 u hu).mono k,.inr ho⟩
  ·exact(h2 b m).mono k
 | .float _,_,_,p,_=>Bool.noConfusion (show false=true from p)
 | .dict _,_,_,p,_=>Bool.noConfusion (show false=true from p)
 | .bytearray _,_,_,p,_=>Bool.noConfusion (show false=true from p)
 | .set _,_,_,p,_=>Bool.noConfusion (show false=true from p)
 | .frozenset _,_,_,p,_=>Bool.noConfusion (show false=true from p)
 | .obj _ _,_,_,p,_=>Bool.noConfusion (show false=true from p)
theorem zhg:∀(ds:List WData) (vs:List Value),WellAll P h vs ds→plWs ds=true→(∀d∈ds,d.weight≤1048576)→∃A:List Addr,(∀u∈vs,OkU A u)∧∀a∈A,ArgOb h A a
 | [],_,x,_,_=>by
  cases x
  exact⟨[],λu m=>absurd m (by simp),λa m=>absurd m (by simp)⟩
 | d::ds,_,x,p,z=>by
  obtain⟨v,vs,rfl,x1,x2⟩:=zkf x
  have q:plW d=true∧plWs ds=true:=Bool.and_eq_true_iff.mp p
  obtain⟨A,a1,a2⟩:=zpV d v x1 q.1 (z d (List.mem_cons_self ..))
  obtain⟨B,b1,b2⟩:=zhg ds vs x2 q.2 λe he=>z e (List.mem_cons_of_mem _ he)
  have kA:∀b∈A,b∈A++B:=λb hb=>List.mem_append.mpr (.inl hb)
  have kB:∀b∈B,b∈A++B:=λb hb=>List.mem_append.mpr (.inr hb)
  refine⟨A++B,λu hu=>?_,λb hb=>?_⟩
  ·rcases List.mem_cons.mp hu with e|m
   ·rw[e]
    exact a1.mono kA
   ·exact(b1 u m).mono kB
  ·rcases List.mem_append.mp hb with m|m
   ·exact(a2 b m).mono kA
   ·exact(b2 b m).mono kB
end
end
def hoOf (o:Obj):Option HO:=match o.data with
 | .seq vs _=>if (o.cls == Value.type "list")=true then some (.frz o (.lst (vs.toList.map toV))) else some (.frz o (.tup (vs.toList.map toV)))
 | _=>none
def argH (K:PySem.W.Frag) (h:Heap) (A:List Addr):Hp:=λb=>if b∈A then (if (K.lookup b).isNone=true then (h.get? b).bind hoOf else none) else none
def OnlyF (H:Hp):Prop:=∀b,H b=none∨∃o u,H b=some (.frz o u)
theorem zmv (vs:List Value):hoOf { cls:=.type "list",data:=.seq vs.toArray }=some (.frz { cls:=.type "list",data:=.seq vs.toArray } (.lst (vs.map toV))):=by
 show (if (Value.type "list" == Value.type "list")=true then some (HO.frz { cls:=.type "list",data:=.seq vs.toArray } (.lst (vs.toArray.toList.map toV))) else some (HO.frz { cls:=.type "list",data:=.seq vs.toArray } (.tup (vs.toArray.toList.map toV))))=_
 rw[if_pos (beq_self_eq_true _)]
theorem zmu (vs:List Value):hoOf { cls:=.type "tuple",data:=.seq vs.toArray }=some (.frz { cls:=.type "tuple",data:=.seq vs.toArray } (.tup (vs.map toV))):=by
 show (if (Value.type "tuple" == Value.type "list")=true then some (HO.frz { cls:=.type "tuple",data:=.seq vs.toArray } (.lst (vs.toArray.toList.map toV))) else some (HO.frz { cls:=.type "tuple",data:=.seq vs.toArray } (.tup (vs.toArray.toList.map toV))))=_
 rw[if_neg (by decide)]
section
variable {P:Program} {w:World} {K:PySem.W.Frag} {h:Heap} {A:List Addr}
theorem zkd {b:Addr} {o:Obj} (hb:b∈A) (hk:K.lookup b=none) (e:h.get? b=some o):argH K h A b=hoOf o:=by
 unfold argH
 rw[if_pos hb,hk,if_pos (show (none:Option Obj).isNone=true from rfl),e]<;>rfl
theorem zqr {b:Addr} {u:HO} (q:argH K h A b=some u):b∈A∧K.lookup b=none:=by
 unfold argH at q
 by_cases hb:b∈A
 ·rw[if_pos hb] at q
  cases hk:K.lookup b with
  | none=>exact⟨hb,rfl⟩
  | some o =>
   rw[hk,if_neg (by simp)] at q
   cases q
 ·rw[if_neg hb] at q
  cases q
theorem zkc (ar:∀a∈A,ArgOb h A a) {b:Addr} {u:HO} (q:argH K h A b=some u):K.lookup b=none∧∃vs:List Value,vs.length≤sizeLine∧(∀u∈vs,OkU A u)∧
  (
   (h.get? b=some { cls:=.type "list",data:=.seq vs.toArray }∧u=.frz { cls:=.type "list",data:=.seq vs.toArray } (.lst (vs.map toV)))∨
   (h.get? b=some { cls:=.type "tuple",data:=.seq vs.toArray }∧u=.frz { cls:=.type "tuple",data:=.seq vs.toArray } (.tup (vs.map toV)))):=by
 obtain⟨hb,hk⟩:=zqr q
 obtain⟨vs,h1,h2,h3⟩:=ar b hb
 refine⟨hk,vs,h1,h2,?_⟩
 rcases h3 with e|e
 ·rw[zkd hb hk e,zmv] at q
  exact .inl ⟨e,(Option.some.inj q).symm⟩
 ·rw[zkd hb hk e,zmu] at q
  exact .inr ⟨e,(Option.some.inj q).symm⟩
theorem zoX (ar:∀a∈A,ArgOb h A a):OnlyF (argH K h A):=λb=>by
 cases q:argH K h A b with
 | none=>exact .inl rfl
 | some u =>
  obtain⟨_,vs,_,_,⟨_,e⟩|⟨_,e⟩⟩:=zkc ar q
  ·exact .inr ⟨_,_,by rw[e]⟩
  ·exact .inr ⟨_,_,by rw[e]⟩
theorem zqM (ar:∀a∈A,ArgOb h A a):HOk P w (argH K h A) h:=λb u q=>by
 obtain⟨_,vs,h1,h2,⟨e,rfl⟩|⟨e,rfl⟩⟩:=zkc ar q
 ·exact⟨e,by rw[List.length_map];exact h1,vs,_,zef h2,e⟩
 ·exact⟨e,by rw[List.length_map];exact h1,vs,zef h2,_,e,rfl,_,rfl⟩
theorem zjp {c c':Value} {vs us:List Value} (e:(some { cls:=c,data:=.seq vs.toArray }:Option Obj)=some { cls:=c',data:=.seq us.toArray }):c=c'∧vs=us:=by
 have e1:=Option.some.inj e
 have e2:c=c':=congrArg Obj.cls e1
 have e3:Data.seq vs.toArray=Data.seq us.toArray:=congrArg Obj.data e1
 injection e3 with e4
 refine⟨e2,?_⟩
 have e5:=congrArg Array.toList e4
 simpa using e5
theorem argL (KX:K.In h) (ar:∀a∈A,ArgOb h A a) {a:Addr} {vs:List Value} (ha:a∈A) (e:h.get? a=some { cls:=.type "list",data:=.seq vs.toArray }):(∀u∈vs,OkU A u)∧SqL K (argH K h A) a (vs.map toV):=by
 obtain⟨us,h1,h2,h3⟩:=ar a ha
 have hu:us=vs:=by
  rcases h3 with q|q
  ·rw[e] at q
   exact(zjp q).2.symm
  ·rw[e] at q
   exact absurd (Value.type.inj (zjp q).1) (by decide)
 subst hu
 refine⟨h2,?_⟩
 cases hk:K.lookup a with
 | none=>exact .inl (.inr ⟨_,by rw[zkd ha hk e,zmv]⟩)
 | some o =>
  have e2:=KX a o hk
  rw[e] at e2
  obtain rfl:=Option.some.inj e2
  exact .inr ⟨_,us.toArray,_,hk,rfl,rfl,rfl,by rw[List.size_toArray];exact h1,by simpa using zef h2⟩
theorem argT (KX:K.In h) (ar:∀a∈A,ArgOb h A a) {a:Addr} {vs:List Value} (ha:a∈A) (e:h.get? a=some { cls:=.type "tuple",data:=.seq vs.toArray }):(∀u∈vs,OkU A u)∧SqT K (argH K h A) a (vs.map toV):=by
 obtain⟨us,h1,h2,h3⟩:=ar a ha
 have hu:us=vs:=by
  rcases h3 with q|q
  ·rw[e] at q
   exact absurd (Value.type.inj (zjp q).1) (by decide)
  ·rw[e] at q
   exact(zjp q).2.symm
 subst hu
 refine⟨h2,?_⟩
 cases hk:K.lookup a with
 | none=>exact .inl (.inr ⟨_,by rw[zkd ha hk e,zmu]⟩)
 | some o =>
  have e2:=KX a o hk
  rw[e] at e2
  obtain rfl:=Option.some.inj e2
  exact .inr ⟨_,us.toArray,_,hk,rfl,rfl,by rw[List.size_toArray];exact h1,by simpa using zef h2⟩
mutual
theorem zra {Pm:Params} (KX:K.In h) (ar:∀a∈A,ArgOb h A a):∀(d:WData) (v:Value),Well Pm h v d→plW d=true→OkU A v→Dw K (argH K h A) (toV v) d
 | .none,_,x,_,_=>by
  cases x
  exact .non
 | .bool b,_,x,_,_=>by
  cases x
  exact .bl b
 | .int i,_,x,_,_=>by
  cases x
  exact .int i
 | .str s,_,x,_,_=>by
  cases x
  exact .str s
 | .bytes b,_,x,_,_=>by
  cases x
  have z:=Dw.byt (K:=K) (H:=argH K h A) b.toArray
  exact z
 | .list ds,_,x,p,hu=>by
  obtain⟨a,vs,rfl,ho,hall⟩:=zke x
  obtain⟨h2,hs⟩:=argL KX ar hu ho
  exact .lst hs (zmx KX ar ds _ hall p h2)
 | .tuple ds,_,x,p,hu=>by
  obtain⟨a,vs,rfl,ho,hall⟩:=ziY x
  obtain⟨h2,hs⟩:=argT KX ar hu ho
  exact .tup hs (zmx KX ar ds _ hall p h2)
 | .float _,_,_,p,_=>Bool.noConfusion (show false=true from p)
 | .dict _,_,_,p,_=>Bool.noConfusion (show false=true from p)
 | .bytearray _,_,_,p,_=>Bool.noConfusion (show false=true from p)
 | .set _,_,_,p,_=>Bool.noConfusion (show false=true from p)
 | .frozenset _,_,_,p,_=>Bool.noConfusion (show false=true from p)
 | .obj _ _,_,_,p,_=>Bool.noConfusion (show false=true from p)
theorem zmx {Pm:Params} (KX:K.In h) (ar:∀a∈A,ArgOb h A a):∀(ds:List WData) (vs:List Value),WellAll Pm h vs ds→plWs ds=true→(∀u∈vs,OkU A u)→DwAll K (argH K h A) (vs.map toV) ds
 | [],_,x,_,_=>by
  cases x
  exact .nil
 | d::ds,_,x,p,hu=>by
  obtain⟨v,vs,rfl,x1,x2⟩:=zkf x
  have q:plW d=true∧plWs ds=true:=Bool.and_eq_true_iff.mp p
  exact .cons (zra KX ar d v x1 q.1 (hu _ (List.mem_cons_self ..))) (zmx KX ar ds vs x2 q.2 λu m=>hu u (List.mem_cons_of_mem _ m))
end
end
theorem znz {P:Program} {w:World} {K:PySem.W.Frag} {mg mb:Str→Option Value} {CX:CXT} {k:Nat} {fa:Addr} {fd:FuncData} {ps:List Str} {sp:Sp} {s₁:Shared} {vals:List Value} {ds:List WData} {R:PySem.W.WRecords} {cl:Str→Option Addr} {d0:WData}
  (KX:K.In s₁.heap) (hns:s₁.heap.Ns mainGlobals mg) (hb:s₁.heap.Ns builtinsNs mb) (hbb:∀x:Str,x≠"__name__"→mb x=bootBuiltins x) (hlim:s₁.heap.NoLimit) (hg:s₁.gens=#[])
  (hwl:WellAll w.params s₁.heap vals ds) (hpl:plWs ds=true) (hwt:∀d∈ds,d.weight≤1048576) (hr:Room k callerA)
  (F:∀base:Heap,K.In base→base.Ns mainGlobals mg→FnOk P w K mg base CX k fa fd ps sp) (hbind:∀(s:Shared) (us:List Value),us.length=ps.length→BindsTo s fd ⟨us,[]⟩ (ps.zip us)) (hlen:ds.length=ps.length)
  (hsp:∀(H:Hp) (xs:List V),OnlyF H→DwAll K H xs ds→sp xs H (λv H'=>Dw K H' v d0) λ_ _ _=>False)
  (hCX:∀H e s',CX [] H s₁ (λ_ _ _=>False) e s'→False) :
  codeAny (model P w) callerA (.call (.ref fa) ⟨vals,[]⟩) (λr s'=>∃u as,r=.ok (.ret u)∧ReadsW R cl s'.heap u d0 as∧OldK s₁.heap s'.heap∧s'.os=s₁.os∧AllBare s'.gens) s₁:=by
 obtain⟨A,ho,ar⟩:=zhg ds vals hwl hpl hwt
 have hO:OnlyF (argH K s₁.heap A):=zoX ar
 have hok:HOk P w (argH K s₁.heap A) s₁.heap:=zqM ar
 have hS:=zmx KX ar ds vals hwl hpl ho
 have hV:=zef ho
 have hK:∀b u,argH K s₁.heap A b=some u→K.lookup b=none:=λb u q=>(zkc ar q).1
 have noA:∀{b:Addr} {o:Obj} {es:Array DictEntry} {ep:Nat},s₁.heap.get? b=some o→o.data=.dict es ep→argH K s₁.heap A b=none:=λ{b o es ep} e d=>by
  cases q:argH K s₁.heap A b with
  | none=>rfl
  | some u =>
   obtain⟨_,vs,_,_,⟨e2,_⟩|⟨e2,_⟩⟩:=zkc ar q
   ·rw[e2] at e
    cases e
    have d':Data.seq vs.toArray _=Data.dict es ep:=d
    cases d'
   ·rw[e2] at e
    cases e
    have d':Data.seq vs.toArray _=Data.dict es ep:=d
    cases d'
 generalize argH K s₁.heap A=H at hO hok hS hK noA
 have base_of:∀{b:Addr} {o:Obj},s₁.heap.get? b=some o→H b=none→(hidT s₁.heap H).get? b=some o:=λe n=>zpE e n
 have nsK:∀{b:Addr} {m:Str→Option Value},s₁.heap.Ns b m→(hidT s₁.heap H).Ns b m:=λ{b m} ⟨o,es,ep,e,d,r⟩=>⟨o,es,ep,base_of e (noA e d),d,r⟩
 have nK:∀b o,K.lookup b=some o→H b=none:=λb o e=>by
  cases q:H b with
  | none=>rfl
  | some u =>
   rw[hK b u q] at e
   cases e
 have hKb:K.In (hidT s₁.heap H):=λb o e=>base_of (KX b o e) (nK b o e)
 have hM:Mod K mg (hidT s₁.heap H):=⟨hKb,nsK hns,⟨mb,nsK hb,hbb⟩,let ⟨mc,h1,h2⟩:=hlim;⟨mc,nsK h1,h2⟩⟩
 have e0:Env0 P w K mg (hidT s₁.heap H) callerA [] s₁ H:=⟨rfl,hM,λb o e=>zqq e,Nat.le_of_eq (zoj _ _),trivial,λb hb=>absurd (show b∈([]:List Addr) from hb) (by simp),hok,.of_eq hg⟩
 have hl:vals.length=ps.length:=by rw[zdv hwl];exact hlen
 refine codeAny_mono ((F _ hKb (nsK hns)).run callerA [] s₁ H ⟨vals,[]⟩ vals (vals.map toV) _ _ hr e0 (hbind s₁ vals hl) hV (hsp H _ hO hS)) λr s' x=>?_
 cases r with
 | error e=>exact(hCX H e s' x).elim
 | ok fl =>
  cases fl with
  | next=>exact False.elim x
  | brk=>exact False.elim x
  | cont=>exact False.elim x
  | ret u =>
   obtain⟨v,H',os,bare,un,hok',r',q⟩:=x
   have kept:∀b o,s₁.heap.get? b=some o→s'.heap.get? b=some o:=λb o e=>by
    cases q2:H b with
    | none=>exact un.keep b o e q2 (by intro z;exact absurd (show b∈([]:List Addr) from z) (by simp)) (by simp)
    | some u2 =>
     rcases hO b with z|⟨ob,u3,z⟩
     ·rw[q2] at z
      cases z
     ·have z2:=un.frzs b ob _ z
      obtain⟨e1,_⟩:=hok b _ z
      obtain⟨e2,_⟩:=hok' b _ z2
      rw[e] at e1
      cases e1
      exact e2
   have KX':K.In s'.heap:=λb o e=>kept b o (KX b o e)
   obtain⟨as,hrd⟩:=Dw.reads (R:=R) (cl:=cl) hok' KX' d0 v u q r'
   exact⟨u,as,rfl,hrd,OldK.of_keep kept,os,bare⟩
theorem ziI {ds:List WData} (h:WData.layableAll ds=true):∀d∈ds,d.weight≤1048576:=λd hd =>
 (PySem.W.layableW_iff.mp (List.all_eq_true.mp h d hd)).2.2
theorem zjc:∀(cs:List Codec) (a:Codec.denoteAll cs),(Codec.encAll cs a).length=cs.length
 | [],_=>rfl
 | c::cs,a=>by
  show (Codec.encAll cs a.2).length+1=cs.length+1
  rw[zjc cs a.2]
theorem znv {r:OpenSpec} {k:Nat} {q:Program} {loose:List Str} {XP:(Str→Option Value)→Heap→Prop} {YP:World→Heap→Prop} {d:DefRec} {K:Params→PySem.W.Frag} {CX:World→CXT} {ps:List Str} {sp:World→Sp}
  (hwell:r.wellSaid=true) (hdf:d.params.defaults=[]) (hlen:r.args.length=ps.length) (hr:Room k callerA)
  (hY:∀(w:World) (h:Heap),YP w h→(K w.params).In h)
  (F:∀(w:World) (mg:Str→Option Value) (fa:Addr) (h:Heap),YP w h→(K w.params).In h→h.Ns mainGlobals mg→mg d.name=some (.ref fa)→
   ∃fd:FuncData,(∀(s:Shared) (us:List Value),us.length=ps.length→BindsTo s fd ⟨us,[]⟩ (ps.zip us))∧
    ∀base:Heap,(K w.params).In base→base.Ns mainGlobals mg→FnOk r.prog w (K w.params) mg base (CX w) k fa fd ps (sp w))
  (hsp:∀(w:World) (H:Hp) (xs:List V) (a:Codec.denoteAll r.args),OnlyF H→Codec.withinAll r.args a=true→Codec.app r.args r.asked a=true→DwAll (K w.params) H xs (Codec.encAll r.args a)→
   sp w xs H (λv H'=>Dw (K w.params) H' v (r.ret.enc (Codec.app r.args r.f a))) λ_ _ _=>False)
  (hCX:∀(w:World) (H:Hp) (s:Shared) (e:Value) (s':Shared),CX w [] H s (λ_ _ _=>False) e s'→False) :
  PySem.W.WalkOS q loose XP YP r d [] (λf vs=>PySem.call f vs):=by
 intro w s_0 s₁ mg mb G Y fa o pm cd doc dV kV ho hd hcd hD hmg hg args vals as hpre hlay hrd hwl hlo
 obtain⟨a,e1,e2⟩:=PySem.W.os_pre_some hpre
 obtain⟨e3,hwi⟩:=Codec.encAll_of_decAll r.args args a e1
 subst e3
 have KX:=hY w _ Y
 obtain⟨fd,hb,hF⟩:=F w mg fa _ Y KX G.T.g hmg
 refine PySem.W.enter_call (codeAny_mono (znz (R:=[]) (cl:=classAt s_0.heap) (d0:=r.ret.enc (Codec.app r.args r.f a)) KX G.T.g G.T.b G.T.builtins G.T.nolimit hg hwl (zks _ _) (ziI hlay) hr hF hb (by rw[zjc];exact hlen)
  (λH xs hO hS=>hsp w H xs a hO hwi e2 hS) λH e s'=>hCX w H s₁ e s') λr' s' hq=>?_)
 obtain⟨u,as',rfl,h1,h2,h3,h4⟩:=hq
 exact⟨.inl ⟨u,_,as',rfl,λ_=>rfl,h1,(OpenSpec.post_iff hwell hwi _ _).mpr rfl,λz=>Bool.noConfusion (show false=true from z)⟩,h2,h3,h4⟩
end L2
end
end
section
namespace L2
open PySem PySem.Spec PyProof.Rows
open PySem.W (WData Codec OpenSpec Well WellAll ReadsW ReadsAllW)
theorem zmJ {r:OpenSpec} {k:Nat} {q:Program} {loose:List Str} {XP:(Str→Option Value)→Heap→Prop} {YP:World→Heap→Prop} {d:DefRec} {K:Params→PySem.W.Frag} {ps:List Str} {sp:PySem.W.Frag→Sp}
  (hwell:r.wellSaid=true) (hdf:d.params.defaults=[]) (hlen:r.args.length=ps.length) (hr:Room k callerA) (hY:∀(w:World) (h:Heap),YP w h→(K w.params).In h)
  (F:∀(w:World) (mg:Str→Option Value) (fa:Addr) (h:Heap),YP w h→(K w.params).In h→h.Ns mainGlobals mg→mg d.name=some (.ref fa)→
   ∃fd:FuncData,(∀(s:Shared) (us:List Value),us.length=ps.length→BindsTo s fd ⟨us,[]⟩ (ps.zip us))∧∀base:Heap,(K w.params).In base→base.Ns mainGlobals mg→FnOk r.prog w (K w.params) mg base (CXP r.prog w) k fa fd ps (sp (K w.params)))
  (hsp:∀(K:PySem.W.Frag) (H:Hp) (xs:List V) (a:Codec.denoteAll r.args),OnlyF H→Codec.withinAll r.args a=true→Codec.app r.args r.asked a=true→DwAll K H xs (Codec.encAll r.args a)→
   sp K xs H (λv H'=>Dw K H' v (r.ret.enc (Codec.app r.args r.f a))) λ_ _ _=>False) :
  PySem.W.WalkOS q loose XP YP r d [] (λf vs=>PySem.call f vs) :=
 znv (K:=K) (CX:=λw=>CXP r.prog w) (sp:=λw=>sp (K w.params)) hwell hdf hlen hr hY F (λw H xs a h1 h2 h3 h4=>hsp (K w.params) H xs a h1 h2 h3 h4) λw H s e s' h=>by
  obtain⟨_,_,_,_,_,_,_,q⟩:=h
  exact q
end L2
namespace Pd
open PySem PySem.Spec PyProof.Rows L2
section
variable {K:PySem.W.Frag} {h:Heap} {mg:Str→Option Value} {x m qual:Str} {st:Stmt} {ps:List Str} {f C:Addr} {oc:Value} {od an:Option Addr} {sl:Array (Option Value)} {gkV dc pm cd ct:Value}
def BindsH (x qual:Str) (st:Stmt) (ps:List Str):Prop:=∀(gkV doc pm:Value) (an:Option Addr) (cdv ct:Value) (us:List Value),us.length=ps.length→bindArgs (PySem.W.fnOf x qual (defArgs st) (defBody st) (defScope st) .none gkV doc pm an cdv ct) ⟨us,[]⟩=pure (ps.zip us)
theorem zan (b:BindsH x x st ps) (X:K.In h) (G:h.Ns mainGlobals mg) (a:PySem.W.nsIn K mainGlobals x=some (some (.ref f))) (l:K.lookup f=some ⟨oc,od,.func (PySem.W.fnOf x x (defArgs st) (defBody st) (defScope st) .none gkV dc pm an cd ct),sl⟩)
  (c:PySem.W.codeIn K cd x=true) (k:PySem.W.keepIn K (.ref f)=true):DefIn K mg x st ps:=⟨_,_,zi2 l c k,PySem.W.mg_of X G a,(zi2 l c k).binds b⟩
theorem zjK (b:BindsH m qual st ps) (a:PySem.W.findIn K (.ref C) m=some (some (.ref f))) (i:PySem.W.isFn K (.ref f)=true) (l:K.lookup f=some ⟨oc,od,.func (PySem.W.fnOf m qual (defArgs st) (defBody st) (defScope st) .none gkV dc pm an cd ct),sl⟩)
  (c:PySem.W.codeIn K cd qual=true) (k:PySem.W.keepIn K (.ref f)=true):MethIn (K:=K) C m qual st ps:=⟨_,_,zi2 l c k,⟨a,i,k⟩,(zi2 l c k).binds b⟩
theorem zlJ (b:BindsH "__init__" qual st ps) (mk:PySem.W.makesIn K C=true) (kc:PySem.W.keepIn K (.ref C)=true) (a:PySem.W.findIn K (.ref C) "__init__"=some (some (.ref f))) (i:PySem.W.isFn K (.ref f)=true)
  (l:K.lookup f=some ⟨oc,od,.func (PySem.W.fnOf "__init__" qual (defArgs st) (defBody st) (defScope st) .none gkV dc pm an cd ct),sl⟩)
  (c:PySem.W.codeIn K cd qual=true) (k:PySem.W.keepIn K (.ref f)=true):InitIn (K:=K) C qual st ps:=⟨_,_,zi2 l c k,⟨mk,a,i,kc⟩,(zi2 l c k).binds b⟩
theorem sq_mk {ch:Addr} {dch:Option Addr} {n:Nat} {t0 t1 t2 t3 t4 t5 t7:Tok} (l:K.lookup ch=some ⟨.type "tuple",dch,.seq #[.int 0 t0,.int 1 t1,.int 2 t2,.int 3 t3,.int 4 t4,.int 5 t5,.int 7 t7] n,sl⟩) (H:Hp):SqT K H ch (natL [0,1,2,3,4,5,7]) :=
 .inr ⟨_,_,_,l,rfl,rfl,by show 7≤sizeLine;decide,.cons ⟨_,rfl⟩ (.cons ⟨_,rfl⟩ (.cons ⟨_,rfl⟩ (.cons ⟨_,rfl⟩ (.cons ⟨_,rfl⟩ (.cons ⟨_,rfl⟩ (.cons ⟨_,rfl⟩ .nil))))))⟩
end
theorem len1 {p:List Value→Prop} (h:∀x0,p [x0]):∀us:List Value,us.length=1→p us|[_],_=>h _
theorem len2 {p:List Value→Prop} (h:∀x0 x1,p [x0,x1]):∀us:List Value,us.length=2→p us|[_,_],_=>h _ _
theorem len3 {p:List Value→Prop} (h:∀x0 x1 x2,p [x0,x1,x2]):∀us:List Value,us.length=3→p us|[_,_,_],_=>h _ _ _
theorem len4 {p:List Value→Prop} (h:∀x0 x1 x2 x3,p [x0,x1,x2,x3]):∀us:List Value,us.length=4→p us|[_,_,_,_],_=>h _ _ _ _
theorem len5 {p:List Value→Prop} (h:∀x0 x1 x2 x3 x4,p [x0,x1,x2,x3,x4]):∀us:List Value,us.length=5→p us|[_,_,_,_,_],_=>h _ _ _ _ _
theorem zmc:BindsH "codes_of" "codes_of" zei ["points"]:=λ_ _ _ _ _ _=>len1 λ_=>rfl
theorem zfL:BindsH "is_within_grace" "is_within_grace" zbp ["town","day"]:=λ_ _ _ _ _ _=>len2 λ_ _=>rfl
theorem zfd:BindsH "codes_still_read" "codes_still_read" zaW ["town","point"]:=λ_ _ _ _ _ _=>len2 λ_ _=>rfl
theorem zgo:BindsH "withheld_codes" "withheld_codes" zbE ["town"]:=λ_ _ _ _ _ _=>len1 λ_=>rfl
theorem ziq:BindsH "may_be_given" "may_be_given" zcg ["code","withheld"]:=λ_ _ _ _ _ _=>len2 λ_ _=>rfl
theorem zfc:BindsH "least_free_codes" "least_free_codes" zaV ["town","wanted"]:=λ_ _ _ _ _ _=>len2 λ_ _=>rfl
theorem zlj:BindsH "give_code" "give_code" zdF ["town","point","code"]:=λ_ _ _ _ _ _=>len3 λ_ _ _=>rfl
theorem zin:BindsH "retire_codes" "retire_codes" zbz ["town","codes_before"]:=λ_ _ _ _ _ _=>len2 λ_ _=>rfl
theorem ziU:BindsH "check_range" "check_range" zcA ["number","least","greatest"]:=λ_ _ _ _ _ _=>len3 λ_ _ _=>rfl
theorem zk4:BindsH "find_point" "find_point" zd1 ["town","number"]:=λ_ _ _ _ _ _=>len2 λ_ _=>rfl
theorem zoT:BindsH "as_row" "as_row" zhd ["numbers"]:=λ_ _ _ _ _ _=>len1 λ_=>rfl
theorem zk9:BindsH "as_one_row" "as_one_row" zd5 ["groups"]:=λ_ _ _ _ _ _=>len1 λ_=>rfl
theorem zpT:BindsH "__init__" "Point.__init__" zbI ["self","number","load","code","since"]:=λ_ _ _ _ _ _=>len5 λ_ _ _ _ _=>rfl
theorem zpS:BindsH "renew" "Town.renew" zd7 ["self","grace","cap"]:=λ_ _ _ _ _ _=>len3 λ_ _ _=>rfl
theorem zqK:BindsH "__init__" "Town.__init__" zbZ ["self","grace","cap"]:=λ_ _ _ _ _ _=>len3 λ_ _ _=>rfl
theorem zgq:BindsH "codes_by_point" "codes_by_point" zbF ["districts"]:=λ_ _ _ _ _ _=>len1 λ_=>rfl
theorem zk5:BindsH "count_kept" "count_kept" zck ["points","districts"]:=λ_ _ _ _ _ _=>len2 λ_ _=>rfl
theorem zeu:BindsH "are_all_points_in" "are_all_points_in" zb9 ["points","sizes"]:=λ_ _ _ _ _ _=>len2 λ_ _=>rfl
theorem zhb:BindsH "are_codes_fit" "are_codes_fit" zbX ["town","codes"]:=λ_ _ _ _ _ _=>len2 λ_ _=>rfl
theorem zfO:BindsH "are_loads_borne" "are_loads_borne" zb5 ["points","sizes","cap"]:=λ_ _ _ _ _ _=>len3 λ_ _ _=>rfl
theorem zm9:BindsH "might_be" "might_be" zeg ["town","sizes","codes"]:=λ_ _ _ _ _ _=>len3 λ_ _ _=>rfl
theorem zfN:BindsH "first_districts" "first_districts" zbr ["points","cap","start","is_taken"]:=λ_ _ _ _ _ _=>len4 λ_ _ _ _=>rfl
theorem zfM:BindsH "is_taken_behind" "is_taken_behind" zbq ["points","start","is_taken","end","code"]:=λ_ _ _ _ _ _=>len5 λ_ _ _ _ _=>rfl
theorem ziW:BindsH "best_choice" "best_choice" zcC ["points","cap","start","is_taken","best"]:=λ_ _ _ _ _ _=>len5 λ_ _ _ _ _=>rfl
theorem zir:BindsH "best_choices" "best_choices" zch ["points","cap"]:=λ_ _ _ _ _ _=>len2 λ_ _=>rfl
theorem zgs:BindsH "best_districts" "best_districts" zbH ["points","cap"]:=λ_ _ _ _ _ _=>len2 λ_ _=>rfl
theorem zgp:BindsH "with_new_codes" "with_new_codes" zbd ["town","districts"]:=λ_ _ _ _ _ _=>len2 λ_ _=>rfl
theorem zli:BindsH "make_plan" "make_plan" zdE ["town"]:=λ_ _ _ _ _ _=>len1 λ_=>rfl
theorem zlf:BindsH "tell_code" "tell_code" zdB ["town","number"]:=λ_ _ _ _ _ _=>len2 λ_ _=>rfl
theorem znr:BindsH "text_of" "text_of" zfs ["code"]:=λ_ _ _ _ _ _=>len1 λ_=>rfl
theorem zlc:BindsH "tell_text" "tell_text" zdy ["code"]:=λ_ _ _ _ _ _=>len1 λ_=>rfl
theorem zik:BindsH "tell_retired" "tell_retired" zcd ["town"]:=λ_ _ _ _ _ _=>len1 λ_=>rfl
theorem zle:BindsH "tell_free" "tell_free" zdA ["town","wanted"]:=λ_ _ _ _ _ _=>len2 λ_ _=>rfl
theorem ziS:BindsH "tell_counts" "tell_counts" zcz ["town"]:=λ_ _ _ _ _ _=>len1 λ_=>rfl
theorem zgr:BindsH "code_read_from" "code_read_from" zbG ["text"]:=λ_ _ _ _ _ _=>len1 λ_=>rfl
theorem zk6:BindsH "check_text" "check_text" zd2 ["text"]:=λ_ _ _ _ _ _=>len1 λ_=>rfl
theorem zma:BindsH "how_read" "how_read" zeh ["town","point","code"]:=λ_ _ _ _ _ _=>len3 λ_ _ _=>rfl
theorem zil:BindsH "tell_reading" "tell_reading" zce ["town","number","text"]:=λ_ _ _ _ _ _=>len3 λ_ _ _=>rfl
theorem zim:BindsH "tell_history" "tell_history" zcf ["town","number"]:=λ_ _ _ _ _ _=>len2 λ_ _=>rfl
theorem zm7:BindsH "tell_row" "tell_row" zdr ["town"]:=λ_ _ _ _ _ _=>len1 λ_=>rfl
theorem zld:BindsH "tell_plan" "tell_plan" zdz ["town"]:=λ_ _ _ _ _ _=>len1 λ_=>rfl
theorem zh8:BindsH "tell_district" "tell_district" zaO ["town","code"]:=λ_ _ _ _ _ _=>len2 λ_ _=>rfl
theorem zk8:BindsH "begin_anew" "begin_anew" zd4 ["town","grace","cap"]:=λ_ _ _ _ _ _=>len3 λ_ _ _=>rfl
theorem zk7:BindsH "change_cap" "change_cap" zd3 ["town","cap"]:=λ_ _ _ _ _ _=>len2 λ_ _=>rfl
theorem zlh:BindsH "pass_days" "pass_days" zdD ["town","days"]:=λ_ _ _ _ _ _=>len2 λ_ _=>rfl
theorem ziV:BindsH "change_load" "change_load" zcB ["town","number","load"]:=λ_ _ _ _ _ _=>len3 λ_ _ _=>rfl
theorem zha:BindsH "code_at_place" "code_at_place" zbW ["points","place"]:=λ_ _ _ _ _ _=>len2 λ_ _=>rfl
theorem zlg:BindsH "put_point" "put_point" zdC ["town","place","load"]:=λ_ _ _ _ _ _=>len3 λ_ _ _=>rfl
theorem zio:BindsH "remove_point" "remove_point" zbA ["town","number"]:=λ_ _ _ _ _ _=>len2 λ_ _=>rfl
theorem zka:BindsH "adopt_plan" "adopt_plan" zd6 ["town"]:=λ_ _ _ _ _ _=>len1 λ_=>rfl
theorem zh9:BindsH "judge_parting" "judge_parting" zbV ["town","sizes","codes"]:=λ_ _ _ _ _ _=>len3 λ_ _ _=>rfl
theorem zoU:BindsH "__init__" "Reader.__init__" zbv ["self","calls"]:=λ_ _ _ _ _ _=>len2 λ_ _=>rfl
theorem zmb:BindsH "has_more" "Reader.has_more" zbu ["self"]:=λ_ _ _ _ _ _=>len1 λ_=>rfl
theorem ziT:BindsH "take_number" "Reader.take_number" zb3 ["self"]:=λ_ _ _ _ _ _=>len1 λ_=>rfl
theorem zm8:BindsH "take_row" "Reader.take_row" zbt ["self"]:=λ_ _ _ _ _ _=>len1 λ_=>rfl
theorem zhc:BindsH "answer_change" "answer_change" zbY ["town","call","reader"]:=λ_ _ _ _ _ _=>len3 λ_ _ _=>rfl
theorem zfP:BindsH "answer_question" "answer_question" zbs ["town","call","reader"]:=λ_ _ _ _ _ _=>len3 λ_ _ _=>rfl
theorem ziX:BindsH "answer_call" "answer_call" zcD ["town","reader"]:=λ_ _ _ _ _ _=>len2 λ_ _=>rfl
theorem zew:BindsH "answer_or_refusal" "answer_or_refusal" zba ["town","reader"]:=λ_ _ _ _ _ _=>len2 λ_ _=>rfl
section
variable {P:Program} {w:World} {K:PySem.W.Frag} {mg:Str→Option Value} {Ad:Adr} {ch:Addr}
theorem zrg (T:Txt K mg Ad) (T2:Txt2 K mg Ad ch)
  (zng:DefIn K mg "codes_of" zei ["points"])
  (zgf:DefIn K mg "is_within_grace" zbp ["town","day"])
  (zfH:DefIn K mg "codes_still_read" zaW ["town","point"])
  (zh0:DefIn K mg "withheld_codes" zbE ["town"])
  (ziP:DefIn K mg "may_be_given" zcg ["code","withheld"])
  (zfG:DefIn K mg "least_free_codes" zaV ["town","wanted"])
  (zlX:DefIn K mg "give_code" zdF ["town","point","code"])
  (ziN:DefIn K mg "retire_codes" zbz ["town","codes_before"])
  (zjU:DefIn K mg "check_range" zcA ["number","least","greatest"])
  (zkU:DefIn K mg "find_point" zd1 ["town","number"])
  (zpO:DefIn K mg "as_row" zhd ["numbers"])
  (zkZ:DefIn K mg "as_one_row" zd5 ["groups"])
  (zqH:InitIn (K:=K) Ad.CP "Point.__init__" zbI ["self","number","load","code","since"])
  (zqF:MethIn (K:=K) Ad.CT "renew" "Town.renew" zd7 ["self","grace","cap"])
  (zrd:InitIn (K:=K) Ad.CT "Town.__init__" zbZ ["self","grace","cap"])
  (zh2:DefIn K mg "codes_by_point" zbF ["districts"])
  (zkV:DefIn K mg "count_kept" zck ["points","districts"])
  (zf5:DefIn K mg "are_all_points_in" zb9 ["points","sizes"])
  (zi9:DefIn K mg "are_codes_fit" zbX ["town","codes"])
  (zgi:DefIn K mg "are_loads_borne" zb5 ["points","sizes","cap"])
  (znd:DefIn K mg "might_be" zeg ["town","sizes","codes"])
  (zgh:DefIn K mg "first_districts" zbr ["points","cap","start","is_taken"])
  (zgg:DefIn K mg "is_taken_behind" zbq ["points","start","is_taken","end","code"])
  (zjW:DefIn K mg "best_choice" zcC ["points","cap","start","is_taken","best"])
  (ziQ:DefIn K mg "best_choices" zch ["points","cap"])
  (zh4:DefIn K mg "best_districts" zbH ["points","cap"])
  (zh1:DefIn K mg "with_new_codes" zbd ["town","districts"])
  (zlW:DefIn K mg "make_plan" zdE ["town"])
  (zlT:DefIn K mg "tell_code" zdB ["town","number"])
  (zoD:DefIn K mg "text_of" zfs ["code"])
  (zlQ:DefIn K mg "tell_text" zdy ["code"])
  (ziK:DefIn K mg "tell_retired" zcd ["town"])
  (zlS:DefIn K mg "tell_free" zdA ["town","wanted"])
  (zjS:DefIn K mg "tell_counts" zcz ["town"])
  (zh3:DefIn K mg "code_read_from" zbG ["text"])
  (zkW:DefIn K mg "check_text" zd2 ["text"])
  (zne:DefIn K mg "how_read" zeh ["town","point","code"])
  (ziL:DefIn K mg "tell_reading" zce ["town","number","text"])
  (ziM:DefIn K mg "tell_history" zcf ["town","number"])
  (znb:DefIn K mg "tell_row" zdr ["town"])
  (zlR:DefIn K mg "tell_plan" zdz ["town"])
  (zi6:DefIn K mg "tell_district" zaO ["town","code"])
  (zkY:DefIn K mg "begin_anew" zd4 ["town","grace","cap"])
  (zkX:DefIn K mg "change_cap" zd3 ["town","cap"])
  (zlV:DefIn K mg "pass_days" zdD ["town","days"])
  (zjV:DefIn K mg "change_load" zcB ["town","number","load"])
  (zi8:DefIn K mg "code_at_place" zbW ["points","place"])
  (zlU:DefIn K mg "put_point" zdC ["town","place","load"])
  (ziO:DefIn K mg "remove_point" zbA ["town","number"])
  (zl0:DefIn K mg "adopt_plan" zd6 ["town"])
  (zi7:DefIn K mg "judge_parting" zbV ["town","sizes","codes"])
  (zpP:InitIn (K:=K) Ad.CR "Reader.__init__" zbv ["self","calls"])
  (znf:MethIn (K:=K) Ad.CR "has_more" "Reader.has_more" zbu ["self"])
  (zjT:MethIn (K:=K) Ad.CR "take_number" "Reader.take_number" zb3 ["self"])
  (znc:MethIn (K:=K) Ad.CR "take_row" "Reader.take_row" zbt ["self"])
  (zia:DefIn K mg "answer_change" zbY ["town","call","reader"])
  (zgj:DefIn K mg "answer_question" zbs ["town","call","reader"])
  (zjX:DefIn K mg "answer_call" zcD ["town","reader"])
  (zf6:DefIn K mg "answer_or_refusal" zba ["town","reader"])
  {fa:Addr} {fd:FuncData} (F:Fun K "answers" "answers" zaX fa fd) (base:Heap):FnOk P w K mg base (CXP P w) 11 fa fd ["calls"] (zdo K):=by
 have zav:=zlC (P:=P) (w:=w) (base:=base) zng T
 have zaL:=zfx (P:=P) (w:=w) (base:=base) zgf T
 have zaI:=zeR (P:=P) (w:=w) (base:=base) zfH T zaL
 have zaS:=zfX (P:=P) (w:=w) (base:=base) zh0 T zav zaI zaL
 have zbf:=zhF (P:=P) (w:=w) (base:=base) ziP T
 have zaH:=zeQ (P:=P) (w:=w) (base:=base) zfG T zaS zbf
 have zf4:=zkI (P:=P) (w:=w) (base:=base) zlX T
 have zbe:=zhD (P:=P) (w:=w) (base:=base) ziN T zav
 have za9:=ziz (P:=P) (w:=w) (base:=base) zjU T
 have zar:=zjC (P:=P) (w:=w) (base:=base) zkU T za9
 have zak:=znT (P:=P) (w:=w) (base:=base) zpO T
 have zaZ:=zjH (P:=P) (w:=w) (base:=base) zkZ T zak
 have zlK:=zpu (P:=P) (w:=w) (base:=base) zqH T
 have zg8:=zps (P:=P) (w:=w) (base:=base) zqF T
 have zom:=zqp (P:=P) (w:=w) (base:=base) zrd T zg8
 have zaT:=zfZ (P:=P) (w:=w) (base:=base) zh2 T
 have zaY:=zjD (P:=P) (w:=w) (base:=base) zkV T zaT
 have zbO:=zeq (P:=P) (w:=w) (base:=base) zf5 T
 have zcW:=zgX (P:=P) (w:=w) (base:=base) zi9 T zav zaS zbf
 have zcb:=zfA (P:=P) (w:=w) (base:=base) zgi T
 have zg9:=zlz (P:=P) (w:=w) (base:=base) znd T zbO zcW zcb
 have zca:=zfz (P:=P) (w:=w) (base:=base) zgh T
 have zaM:=zfy (P:=P) (w:=w) (base:=base) zgg T
 have zcG:=ziB (P:=P) (w:=w) (base:=base) zjW T zca zaM
 have zdj:=zhG (P:=P) (w:=w) (base:=base) ziQ T zcG
 have zct:=zg1 (P:=P) (w:=w) (base:=base) zh4 T zdj zaM
 have zcs:=zfY (P:=P) (w:=w) (base:=base) zh1 T zaH
 have zc9:=zkH (P:=P) (w:=w) (base:=base) zlW T zcs zct
 have zf1:=zkE (P:=P) (w:=w) (base:=base) zlT T zar zak
 have zds:=zmQ (P:=P) (w:=w) (base:=base) zoD T
 have zeY:=zkB (P:=P) (w:=w) (base:=base) zlQ T za9 zak zds
 have zdf:=zhA (P:=P) (w:=w) (base:=base) ziK T zaZ
 have zf0:=zkD (P:=P) (w:=w) (base:=base) zlS T za9 zak zaH
 have zdJ:=zix (P:=P) (w:=w) (base:=base) zjS T zav zak
 have zaU:=zg0 (P:=P) (w:=w) (base:=base) zh3 T zds
 have ze7:=zjE (P:=P) (w:=w) (base:=base) zkW T zaU
 have zga:=zlA (P:=P) (w:=w) (base:=base) zne T zaI
 have zdg:=zhB (P:=P) (w:=w) (base:=base) ziL T zar zak zaU zga
 have zdh:=zhC (P:=P) (w:=w) (base:=base) ziM T zar zak
 have zg7:=zlx (P:=P) (w:=w) (base:=base) znb T zaZ
 have zeZ:=zkC (P:=P) (w:=w) (base:=base) zlR T zc9 zak zaY zaZ
 have zcT:=zgU (P:=P) (w:=w) (base:=base) zi6 T za9 zak
 have ze9:=zjG (P:=P) (w:=w) (base:=base) zkY T za9 zg8
 have ze8:=zjF (P:=P) (w:=w) (base:=base) zkX T za9
 have zf3:=zkG (P:=P) (w:=w) (base:=base) zlV T za9
 have zdK:=ziA (P:=P) (w:=w) (base:=base) zjV T za9 zar
 have zcV:=zgW (P:=P) (w:=w) (base:=base) zi8 T
 have zf2:=zkF (P:=P) (w:=w) (base:=base) zlU T za9 zcV zlK
 have zdi:=zhE (P:=P) (w:=w) (base:=base) ziO T zar zav zbe
 have zea:=zjI (P:=P) (w:=w) (base:=base) zl0 T zc9 zak zaY zav zaT zf4 zbe
 have zcU:=zgV (P:=P) (w:=w) (base:=base) zi7 T zg9 zak zaY
 have zjO:=znU (P:=P) (w:=w) (base:=base) zpP T
 have zgb:=zlB (P:=P) (w:=w) (base:=base) znf T
 have zad:=ziy (P:=P) (w:=w) (base:=base) zjT T
 have zcJ:=zly (P:=P) (w:=w) (base:=base) znc T zad
 have zcX:=zgY (P:=P) (w:=w) (base:=base) zia T zad ze9 zf2 zdK zdi ze8 zf3 zea
 have zcc:=zfB (P:=P) (w:=w) (base:=base) zgj T zad zcJ zeZ zcU zf1 zcT zdg zeY ze7 zdh zdf zg7 zf0 zdJ
 have zdL:=ziC (P:=P) (w:=w) (base:=base) zjX T T2 zad zcX zcc
 have zbP:=zer (P:=P) (w:=w) (base:=base) zf6 T T2 zdL
 exact zmR F T zom zjO zgb zbP
end
theorem zr8 {P:Program} {w:World} {K:PySem.W.Frag} {h:Heap} {mg:Str→Option Value} {fa f:Addr} {oc:Value} {od an:Option Addr} {sl:Array (Option Value)} {gkV dc pm cd ct:Value} (X:K.In h) (G:h.Ns mainGlobals mg) (hfa:mg "answers"=some (.ref fa))
  (a:PySem.W.nsIn K mainGlobals "answers"=some (some (.ref f))) (l:K.lookup f=some ⟨oc,od,.func (PySem.W.fnOf "answers" "answers" (defArgs zaX) (defBody zaX) (defScope zaX) .none gkV dc pm an cd ct),sl⟩) (c:PySem.W.codeIn K cd "answers"=true) (k:PySem.W.keepIn K (.ref f)=true)
  (H:∀{fd:FuncData},Fun K "answers" "answers" zaX f fd→∀base:Heap,FnOk P w K mg base (CXP P w) 11 f fd ["calls"] (zdo K)) :
  ∃fd:FuncData,(∀(s:Shared) (us:List Value),us.length=(["calls"]:List Str).length→BindsTo s fd ⟨us,[]⟩ ((["calls"]:List Str).zip us))∧∀base:Heap,K.In base→base.Ns mainGlobals mg→FnOk P w K mg base (CXP P w) 11 fa fd ["calls"] (zdo K):=by
 have e:=hfa.symm.trans (PySem.W.mg_of X G a)
 cases e
 exact⟨PySem.W.fnOf "answers" "answers" (defArgs zaX) (defBody zaX) (defScope zaX) .none gkV dc pm an cd ct,λs us hu=>match us,hu with|[_],_=>.of_eq rfl,λbase _ _=>H (zi2 (st:=zaX) l c k) base⟩
theorem znw {K:PySem.W.Frag} {h:Heap} {mg:Str→Option Value} {CP CT CR eR eT eP eN eM:Addr} {u0 u1 u2 u3 u4 u5 u6 u7 u8 u9 u10 u11 u12 u13 u14 u15 u16 u17 u18 u19 u20 u21:Tok} (X:K.In h) (G:h.Ns mainGlobals mg)
  (aCP:PySem.W.nsIn K mainGlobals "Point"=some (some (.ref CP)))
  (pCP:PySem.W.plainGet K CP Str.empty=true)
  (hCP:PySem.W.hasDictIn K CP=true)
  (oCP:PySem.W.plainOver K CP=true)
  (sCP:PySem.W.findIn K (.ref CP) "__setattr__"=some (some (.builtin "object.__setattr__")))
  (aCT:PySem.W.nsIn K mainGlobals "Town"=some (some (.ref CT)))
  (pCT:PySem.W.plainGet K CT Str.empty=true)
  (hCT:PySem.W.hasDictIn K CT=true)
  (oCT:PySem.W.plainOver K CT=true)
  (sCT:PySem.W.findIn K (.ref CT) "__setattr__"=some (some (.builtin "object.__setattr__")))
  (aCR:PySem.W.nsIn K mainGlobals "Reader"=some (some (.ref CR)))
  (pCR:PySem.W.plainGet K CR Str.empty=true)
  (hCR:PySem.W.hasDictIn K CR=true)
  (oCR:PySem.W.plainOver K CR=true)
  (sCR:PySem.W.findIn K (.ref CR) "__setattr__"=some (some (.builtin "object.__setattr__")))
  (n0:PySem.W.findIn K (.ref CP) "number"=some none)
  (n1:PySem.W.findIn K (.ref CP) "load"=some none)
  (n2:PySem.W.findIn K (.ref CP) "code"=some none)
  (n3:PySem.W.findIn K (.ref CP) "since"=some none)
  (n4:PySem.W.findIn K (.ref CP) "had"=some none)
  (n5:PySem.W.findIn K (.ref CT) "day"=some none)
  (n6:PySem.W.findIn K (.ref CT) "grace"=some none)
  (n7:PySem.W.findIn K (.ref CT) "cap"=some none)
  (n8:PySem.W.findIn K (.ref CT) "points"=some none)
  (n9:PySem.W.findIn K (.ref CT) "retired"=some none)
  (n10:PySem.W.findIn K (.ref CT) "numbers_given"=some none)
  (n11:PySem.W.findIn K (.ref CR) "calls"=some none)
  (n12:PySem.W.findIn K (.ref CR) "at"=some none)
  (aeR:PySem.W.nsIn K mainGlobals "NotInRange"=some (some (.ref eR)))
  (xeR:PySem.W.excIn K eR [.type "Exception",.type "BaseException",.type "object"] "Exception.__new__"=true)
  (aeT:PySem.W.nsIn K mainGlobals "NotAsTold"=some (some (.ref eT)))
  (xeT:PySem.W.excIn K eT [.type "Exception",.type "BaseException",.type "object"] "Exception.__new__"=true)
  (aeP:PySem.W.nsIn K mainGlobals "NoSuchPoint"=some (some (.ref eP)))
  (xeP:PySem.W.excIn K eP [.type "Exception",.type "BaseException",.type "object"] "Exception.__new__"=true)
  (aeN:PySem.W.nsIn K mainGlobals "NoPlan"=some (some (.ref eN)))
  (xeN:PySem.W.excIn K eN [.type "Exception",.type "BaseException",.type "object"] "Exception.__new__"=true)
  (aeM:PySem.W.nsIn K mainGlobals "TooMany"=some (some (.ref eM)))
  (xeM:PySem.W.excIn K eM [.type "Exception",.type "BaseException",.type "object"] "Exception.__new__"=true)
  (b0:PySem.W.nsIn K mainGlobals "len"=some none)
  (b1:PySem.W.nsIn K mainGlobals "sum"=some none)
  (b2:PySem.W.nsIn K mainGlobals "min"=some none)
  (b3:PySem.W.nsIn K mainGlobals "set"=some none)
  (b4:PySem.W.nsIn K mainGlobals "list"=some none)
  (b5:PySem.W.nsIn K mainGlobals "range"=some none)
  (b6:PySem.W.nsIn K mainGlobals "zip"=some none)
  (b7:PySem.W.nsIn K mainGlobals "enumerate"=some none)
  (c0:PySem.W.nsIn K mainGlobals "NO_CODE"=some (some (.int 0 u0)))
  (c1:PySem.W.nsIn K mainGlobals "LEAST_CODE"=some (some (.int 100 u1)))
  (c2:PySem.W.nsIn K mainGlobals "GREATEST_CODE"=some (some (.int 999 u2)))
  (c3:PySem.W.nsIn K mainGlobals "GREATEST_NUMBER"=some (some (.int 1000000 u3)))
  (c4:PySem.W.nsIn K mainGlobals "NEW_CODE"=some (some (.int 0 u4)))
  (c5:PySem.W.nsIn K mainGlobals "MOST_POINTS"=some (some (.int 40 u5)))
  (c6:PySem.W.nsIn K mainGlobals "GREATEST_LOAD"=some (some (.int 1000000 u6)))
  (c7:PySem.W.nsIn K mainGlobals "GREATEST_CAP"=some (some (.int 1000000 u7)))
  (c8:PySem.W.nsIn K mainGlobals "GREATEST_GRACE"=some (some (.int 1000 u8)))
  (c9:PySem.W.nsIn K mainGlobals "MOST_DAYS"=some (some (.int 1000 u9)))
  (c10:PySem.W.nsIn K mainGlobals "LAST_DAY"=some (some (.int 100000 u10)))
  (c11:PySem.W.nsIn K mainGlobals "DIGIT_ZERO"=some (some (.int 48 u11)))
  (c12:PySem.W.nsIn K mainGlobals "DIGIT_NINE"=some (some (.int 57 u12)))
  (c13:PySem.W.nsIn K mainGlobals "LETTER_A"=some (some (.int 65 u13)))
  (c14:PySem.W.nsIn K mainGlobals "TEXT_LENGTH"=some (some (.int 4 u14)))
  (c15:PySem.W.nsIn K mainGlobals "GREATEST_JUDGED"=some (some (.int 1000 u15)))
  (c16:PySem.W.nsIn K mainGlobals "MOST_FREE_TOLD"=some (some (.int 50 u16)))
  (c17:PySem.W.nsIn K mainGlobals "NOT_READ"=some (some (.int 0 u17)))
  (c18:PySem.W.nsIn K mainGlobals "READ_AS_OWN"=some (some (.int 1 u18)))
  (c19:PySem.W.nsIn K mainGlobals "READ_AS_HAD_BEFORE"=some (some (.int 2 u19)))
  (c20:PySem.W.nsIn K mainGlobals "FIRST_GRACE"=some (some (.int 30 u20)))
  (c21:PySem.W.nsIn K mainGlobals "FIRST_CAP"=some (some (.int 100 u21)))
  (ne1:CP≠CT)
  (ne2:CP≠CR)
  (ne3:CT≠CR)
  : Txt K mg ⟨CP,CT,CR,eR,eT,eP,eN,eM⟩:=⟨ne1,ne2,ne3,⟨pCP,hCP,oCP,sCP⟩,⟨pCT,hCT,oCT,sCT⟩,⟨pCR,hCR,oCR,sCR⟩,n0,n1,n2,n3,n4,n5,n6,n7,n8,n9,n10,n11,n12,PySem.W.mg_of X G aCP,PySem.W.mg_of X G aCT,PySem.W.mg_of X G aCR,PySem.W.mg_of X G aeR,PySem.W.mg_of X G aeT,PySem.W.mg_of X G aeP,PySem.W.mg_of X G aeN,PySem.W.mg_of X G aeM,xeR,xeT,xeP,xeN,xeM,PySem.W.mg_none_of X G b0,PySem.W.mg_none_of X G b1,PySem.W.mg_none_of X G b2,PySem.W.mg_none_of X G b3,PySem.W.mg_none_of X G b4,PySem.W.mg_none_of X G b5,PySem.W.mg_none_of X G b6,PySem.W.mg_none_of X G b7,⟨_,PySem.W.mg_of X G c0⟩,⟨_,PySem.W.mg_of X G c1⟩,⟨_,PySem.W.mg_of X G c2⟩,⟨_,PySem.W.mg_of X G c3⟩,⟨_,PySem.W.mg_of X G c4⟩,⟨_,PySem.W.mg_of X G c5⟩,⟨_,PySem.W.mg_of X G c6⟩,⟨_,PySem.W.mg_of X G c7⟩,⟨_,PySem.W.mg_of X G c8⟩,⟨_,PySem.W.mg_of X G c9⟩,⟨_,PySem.W.mg_of X G c10⟩,⟨_,PySem.W.mg_of X G c11⟩,⟨_,PySem.W.mg_of X G c12⟩,⟨_,PySem.W.mg_of X G c13⟩,⟨_,PySem.W.mg_of X G c14⟩,⟨_,PySem.W.mg_of X G c15⟩,⟨_,PySem.W.mg_of X G c16⟩,⟨_,PySem.W.mg_of X G c17⟩,⟨_,PySem.W.mg_of X G c18⟩,⟨_,PySem.W.mg_of X G c19⟩,⟨_,PySem.W.mg_of X G c20⟩,⟨_,PySem.W.mg_of X G c21⟩⟩
end Pd
end
open PySem PySem.W PyProof.Rows
set_option maxRecDepth 100000 in
set_option maxHeartbeats 0 in
theorem PySem.Challenge.cw_postdistricts_s01_answers_holds : PySem.Challenge.rw_postdistricts_s01_answers.Holds := by
 w_on
 refine holds_os (r:=PySem.Challenge.rw_postdistricts_s01_answers) (q:=Pd.gkQ) (loose:=[]) (Xt:=Pd.gkX) (XP:=XL Pd.gkQ []) (Yf:=Hook.obs (kHook Pd.gkK Pd.gkA Pd.gkE)) (Ya:=Hook.val (kHook Pd.gkK Pd.gkA Pd.gkE)) (YP:=Hook.says (kHook Pd.gkK Pd.gkA Pd.gkE)) (N:=7558) (d:=⟨"answers",L2.defArgs Pd.zaX,L2.defBody Pd.zaX,L2.defScope Pd.zaX,⟨407,0,415,15⟩⟩) (kwd:=[]) Pd.gkLeft (Hook.of _) (Hook.keeps _) (λs e=>xl_of s (Bool.and_eq_true_iff.mp e).1) XL.keeps (by kernel_rfl) (by kernel_rfl) (by kernel_rfl) (λs e=>recFacts_of (Bool.and_eq_true_iff.mp e).2) os_shapes (by decide +kernel) (by decide +kernel) ⟨rfl,rfl,rfl,rfl,rfl,by decide +kernel⟩ ⟨[.list [.int 15]],by decide +kernel,by decide +kernel⟩ ?_
 k_fillS
 refine L2.zmJ (r:=PySem.Challenge.rw_postdistricts_s01_answers) (k:=11) (ps:=["calls"]) (sp:=Pd.zdo) (by decide +kernel) rfl rfl ⟨rfl,by decide,by decide⟩ (λw h Y=>PySem.W.kIn_of Y) ?F ?S
 case F =>
  intro w mg fa h Y KX G hmg
  refine' Pd.zr8 KX G hmg ?z1 ?z2 ?z3 ?z4 (Pd.zrg (Pd.znw KX G ?z5 ?z6 ?z7 ?z8 ?z9 ?z10 ?z11 ?z12 ?z13 ?z14 ?z15 ?z16 ?z17 ?z18 ?z19 ?z20 ?z21 ?z22 ?z23 ?z24 ?z25 ?z26 ?z27 ?z28 ?z29 ?z30 ?z31 ?z32 ?z33 ?z34 ?z35 ?z36 ?z37 ?z38 ?z39 ?z40 ?z41 ?z42 ?z43 ?z44 ?z45 ?z46 ?z47 ?z48 ?z49 ?z50 ?z51 ?z52 ?z53 ?z54 ?z55 ?z56 ?z57 ?z58 ?z59 ?z60 ?z61 ?z62 ?z63 ?z64 ?z65 ?z66 ?z67 ?z68 ?z69 ?z70 ?z71 ?z72 ?z73 ?z74 ?z75) ⟨PySem.W.mg_of KX G ?z76,Pd.sq_mk ?z77,?z78,?z79,?z80,?z81,?z82,?z83,?z84,?z85,?z86,?z87,?z88,?z89,?z90,?z91,?z92⟩ (Pd.zan Pd.zmc KX G ?z93 ?z94 ?z95 ?z96) (Pd.zan Pd.zfL KX G ?z97 ?z98 ?z99 ?z100) (Pd.zan Pd.zfd KX G ?z101 ?z102 ?z103 ?z104) (Pd.zan Pd.zgo KX G ?z105 ?z106 ?z107 ?z108) (Pd.zan Pd.ziq KX G ?z109 ?z110 ?z111 ?z112) (Pd.zan Pd.zfc KX G ?z113 ?z114 ?z115 ?z116) (Pd.zan Pd.zlj KX G ?z117 ?z118 ?z119 ?z120) (Pd.zan Pd.zin KX G ?z121 ?z122 ?z123 ?z124) (Pd.zan Pd.ziU KX G ?z125 ?z126 ?z127 ?z128) (Pd.zan Pd.zk4 KX G ?z129 ?z130 ?z131 ?z132) (Pd.zan Pd.zoT KX G ?z133 ?z134 ?z135 ?z136) (Pd.zan Pd.zk9 KX G ?z137 ?z138 ?z139 ?z140) (Pd.zlJ Pd.zpT ?z141 ?z142 ?z143 ?z144 ?z145 ?z146 ?z147) (Pd.zjK Pd.zpS ?z148 ?z149 ?z150 ?z151 ?z152) (Pd.zlJ Pd.zqK ?z153 ?z154 ?z155 ?z156 ?z157 ?z158 ?z159) (Pd.zan Pd.zgq KX G ?z160 ?z161 ?z162 ?z163) (Pd.zan Pd.zk5 KX G ?z164 ?z165 ?z166 ?z167) (Pd.zan Pd.zeu KX G ?z168 ?z169 ?z170 ?z171) (Pd.zan Pd.zhb KX G ?z172 ?z173 ?z174 ?z175) (Pd.zan Pd.zfO KX G ?z176 ?z177 ?z178 ?z179) (Pd.zan Pd.zm9 KX G ?z180 ?z181 ?z182 ?z183) (Pd.zan Pd.zfN KX G ?z184 ?z185 ?z186 ?z187) (Pd.zan Pd.zfM KX G ?z188 ?z189 ?z190 ?z191) (Pd.zan Pd.ziW KX G ?z192 ?z193 ?z194 ?z195) (Pd.zan Pd.zir KX G ?z196 ?z197 ?z198 ?z199) (Pd.zan Pd.zgs KX G ?z200 ?z201 ?z202 ?z203) (Pd.zan Pd.zgp KX G ?z204 ?z205 ?z206 ?z207) (Pd.zan Pd.zli KX G ?z208 ?z209 ?z210 ?z211) (Pd.zan Pd.zlf KX G ?z212 ?z213 ?z214 ?z215) (Pd.zan Pd.znr KX G ?z216 ?z217 ?z218 ?z219) (Pd.zan Pd.zlc KX G ?z220 ?z221 ?z222 ?z223) (Pd.zan Pd.zik KX G ?z224 ?z225 ?z226 ?z227) (Pd.zan Pd.zle KX G ?z228 ?z229 ?z230 ?z231) (Pd.zan Pd.ziS KX G ?z232 ?z233 ?z234 ?z235) (Pd.zan Pd.zgr KX G ?z236 ?z237 ?z238 ?z239) (Pd.zan Pd.zk6 KX G ?z240 ?z241 ?z242 ?z243) (Pd.zan Pd.zma KX G ?z244 ?z245 ?z246 ?z247) (Pd.zan Pd.zil KX G ?z248 ?z249 ?z250 ?z251) (Pd.zan Pd.zim KX G ?z252 ?z253 ?z254 ?z255) (Pd.zan Pd.zm7 KX G ?z256 ?z257 ?z258 ?z259) (Pd.zan Pd.zld KX G ?z260 ?z261 ?z262 ?z263) (Pd.zan Pd.zh8 KX G ?z264 ?z265 ?z266 ?z267) (Pd.zan Pd.zk8 KX G ?z268 ?z269 ?z270 ?z271) (Pd.zan Pd.zk7 KX G ?z272 ?z273 ?z274 ?z275) (Pd.zan Pd.zlh KX G ?z276 ?z277 ?z278 ?z279) (Pd.zan Pd.ziV KX G ?z280 ?z281 ?z282 ?z283) (Pd.zan Pd.zha KX G ?z284 ?z285 ?z286 ?z287) (Pd.zan Pd.zlg KX G ?z288 ?z289 ?z290 ?z291) (Pd.zan Pd.zio KX G ?z292 ?z293 ?z294 ?z295) (Pd.zan Pd.zka KX G ?z296 ?z297 ?z298 ?z299) (Pd.zan Pd.zh9 KX G ?z300 ?z301 ?z302 ?z303) (Pd.zlJ Pd.zoU ?z304 ?z305 ?z306 ?z307 ?z308 ?z309 ?z310) (Pd.zjK Pd.zmb ?z311 ?z312 ?z313 ?z314 ?z315) (Pd.zjK Pd.ziT ?z316 ?z317 ?z318 ?z319 ?z320) (Pd.zjK Pd.zm8 ?z321 ?z322 ?z323 ?z324 ?z325) (Pd.zan Pd.zhc KX G ?z326 ?z327 ?z328 ?z329) (Pd.zan Pd.zfP KX G ?z330 ?z331 ?z332 ?z333) (Pd.zan Pd.ziX KX G ?z334 ?z335 ?z336 ?z337) (Pd.zan Pd.zew KX G ?z338 ?z339 ?z340 ?z341))
  case z1|z2|z3|z4|z5|z6|z7|z8|z9|z10|z11|z12|z13|z14|z15|z16|z17|z18|z19|z20|z21|z22|z23|z24|z25|z26|z27|z28|z29|z30|z31|z32|z33|z35|z37|z39|z41|z43|z44|z45|z46|z47|z48|z49|z50|z51|z52|z53|z54|z55|z56|z57|z58|z59|z60|z61|z62|z63|z64|z65|z66|z67|z68|z69|z70|z71|z72|z76|z77|z93|z94|z95|z96|z97|z98|z99|z100|z101|z102|z103|z104|z105|z106|z107|z108|z109|z110|z111|z112|z113|z114|z115|z116|z117|z118|z119|z120|z121|z122|z123|z124|z125|z126|z127|z128|z129|z130|z131|z132|z133|z134|z135|z136|z137|z138|z139|z140|z141|z142|z143|z144|z145|z146|z147|z148|z149|z150|z151|z152|z153|z154|z155|z156|z157|z158|z159|z160|z161|z162|z163|z164|z165|z166|z167|z168|z169|z170|z171|z172|z173|z174|z175|z176|z177|z178|z179|z180|z181|z182|z183|z184|z185|z186|z187|z188|z189|z190|z191|z192|z193|z194|z195|z196|z197|z198|z199|z200|z201|z202|z203|z204|z205|z206|z207|z208|z209|z210|z211|z212|z213|z214|z215|z216|z217|z218|z219|z220|z221|z222|z223|z224|z225|z226|z227|z228|z229|z230|z231|z232|z233|z234|z235|z236|z237|z238|z239|z240|z241|z242|z243|z244|z245|z246|z247|z248|z249|z250|z251|z252|z253|z254|z255|z256|z257|z258|z259|z260|z261|z262|z263|z264|z265|z266|z267|z268|z269|z270|z271|z272|z273|z274|z275|z276|z277|z278|z279|z280|z281|z282|z283|z284|z285|z286|z287|z288|z289|z290|z291|z292|z293|z294|z295|z296|z297|z298|z299|z300|z301|z302|z303|z304|z305|z306|z307|z308|z309|z310|z311|z312|z313|z314|z315|z316|z317|z318|z319|z320|z321|z322|z323|z324|z325|z326|z327|z328|z329|z330|z331|z332|z333|z334|z335|z336|z337|z338|z339|z340|z341=>k_is
  case z34|z36|z38|z40|z42=>k_exc
  case z78|z79|z80|z81|z82|z83|z84|z85|z86|z87|z88|z89|z90|z91|z92=>kts_exm
  case z73|z74|z75=>decide
 case S =>
  intro K H xs a hO hwi hask hx
  cases hx with
  | cons h1 h2 =>
   cases h2
   cases h1 with
   | lst hs ha =>
    have e:=L2.zog a.1 _ ha
    subst e
    refine⟨_,a.1,rfl,?_,hask,λH' p hp=>.lst (L2.SqL.of hp) (L2.zox _)⟩
    rcases hs with (h|h)|h
    ·rcases hO _ with z|⟨ob,u,z⟩
     ·rw[z] at h;cases h
     ·rw[z] at h;cases h
    ·exact .inl h
    ·exact .inr h
#print axioms PySem.Challenge.cw_postdistricts_s01_answers_holds
