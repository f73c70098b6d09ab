import PyProof.Rows.All
import Wide.All
import OpenK.AllK
import Wide.FinOn
import KE.KTryMore
import PyProof.NsDelKeeps
import PyProof.ListRange
import PyProof.Draws
import PyProof.EnumMake
import KE.KUnpack
import KE.KLam
import KE.KRevIter
import KE.KDictOf
import PyProof.AttrMissSeq
import KE.KDictList
import KE.LcSums
import KE.KSortTup
import KE.KIntText
import PyProof.StrLawsTight
import PyProof.StrLawsChain
import PyProof.Rows.StrItems
import PyProof.NeKinds
import PyProof.Rows.SetFrom
import PyProof.DictFindH
import Lean
import PyProof.EqAt
import PyProof.EqKinds
import PyProof.TupleCall
import PyProof.ListStr
import KE.KRevSl
import PyProof.Rows.Range3
import PySem.Challenge.RW_spreadwords_k33_texts_of_no_wish
set_option Elab.async false
set_option linter.all false
set_option maxRecDepth 100000
set_option maxHeartbeats 4000000
namespace L2
open PySem PySem.Spec PyProof.Rows
abbrev Key:=Sum Int Str
def keyIs:Key→Value→Bool
 | .inl k,v=>Value.isInt k v
 | .inr x,v=>Value.isStrOf x v
def keyH (w:World):Key→Int
 | .inl k=>hashInt k
 | .inr x=>hashStr w x
theorem keyIs_shape:∀ {k:Key} {v:Value},keyIs k v=true→(∃ i t,k=Sum.inl i∧v=Value.int i t)∨(∃ x t,k=Sum.inr x∧v=Value.str x t)
 | .inl i,v,h=>by
  obtain ⟨t,e⟩:=Value.isInt_shape (k:=i) (v:=v) h
  exact .inl ⟨i,t,rfl,e⟩
 | .inr x,v,h=>by
  obtain ⟨t,e⟩:=Value.isStrOf_shape (x:=x) (v:=v) h
  exact .inr ⟨x,t,rfl,e⟩
theorem keyIs_int (i:Int) (t:Tok):keyIs (.inl i) (.int i t)=true:=by simp [keyIs,Value.isInt]
theorem keyIs_str (x:Str) (t:Tok):keyIs (.inr x) (.str x t)=true:=by simp [keyIs,Value.isStrOf]
theorem key_ll (a b:Int):decide ((Sum.inl a:Key)=Sum.inl b)=(a==b):=by
 by_cases e:a=b
 ·subst e; simp
 ·have h:¬ (Sum.inl a:Key)=Sum.inl b:=fun q=>e (Sum.inl.inj q)
  rw [decide_eq_false h]
  exact (beq_eq_false_iff_ne.mpr e).symm
theorem key_rr (a b:Str):decide ((Sum.inr a:Key)=Sum.inr b)=decide (a=b):=by
 by_cases e:a=b
 ·subst e; simp
 ·have h:¬ (Sum.inr a:Key)=Sum.inr b:=fun q=>e (Sum.inr.inj q)
  rw [decide_eq_false h,decide_eq_false e]
theorem key_lr (a:Int) (b:Str):decide ((Sum.inl a:Key)=Sum.inr b)=false:=decide_eq_false (fun q=>nomatch q)
theorem key_rl (a:Str) (b:Int):decide ((Sum.inr a:Key)=Sum.inl b)=false:=decide_eq_false (fun q=>nomatch q)
def mixKind (prog:Program) (w:World):PySem.KeyKind prog w Key where
 is:=keyIs
 hash:=keyH w
 inj:=fun v a b ha hb=>by
  rcases keyIs_shape ha with ⟨i,t,rfl,rfl⟩ | ⟨x,t,rfl,rfl⟩
  ·rcases keyIs_shape hb with ⟨j,u,rfl,e⟩ | ⟨y,u,rfl,e⟩
   ·injection e with e1 _; rw [e1]
   ·exact nomatch e
  ·rcases keyIs_shape hb with ⟨j,u,rfl,e⟩ | ⟨y,u,rfl,e⟩
   ·exact nomatch e
   ·injection e with e1 _; rw [e1]
 byValue:=fun k v h=>by
  rcases keyIs_shape h with ⟨i,t,rfl,rfl⟩ | ⟨x,t,rfl,rfl⟩ <;> rfl
 pyHash:=fun hv h=>by
  rcases keyIs_shape hv with ⟨i,t,rfl,rfl⟩ | ⟨x,t,rfl,rfl⟩
  ·exact wpAny_pyHash_int h
  ·exact wpAny_pyHash_str h
 eqBool:=fun hu hv h=>by
  rcases keyIs_shape hu with ⟨i,t,rfl,rfl⟩ | ⟨x,t,rfl,rfl⟩
  ·rcases keyIs_shape hv with ⟨j,u,rfl,rfl⟩ | ⟨y,u,rfl,rfl⟩
   ·rw [key_ll] at h; exact wpAny_eqBool_int h
   ·rw [key_lr] at h; exact SeqAt.EqAt.int_str i t y u _ _ _ _ h
  ·rcases keyIs_shape hv with ⟨j,u,rfl,rfl⟩ | ⟨y,u,rfl,rfl⟩
   ·rw [key_rl] at h; exact SeqAt.EqAt.str_int x t j u _ _ _ _ h
   ·rw [key_rr] at h; exact wpAny_eqBool_str h
 «strs»:=fun k x t v h=>by
  rcases keyIs_shape h with ⟨i,u,rfl,e⟩ | ⟨y,u,rfl,e⟩
  ·exact nomatch e
  ·injection e with e1 _
   subst e1
   cases v <;> rfl
theorem mixKind_int (prog:Program) (w:World) (i:Int) (t:Tok):(mixKind prog w).is (.inl i) (.int i t)=true:=keyIs_int i t
theorem mixKind_str (prog:Program) (w:World) (x:Str) (t:Tok):(mixKind prog w).is (.inr x) (.str x t)=true:=keyIs_str x t
end L2
namespace L2
open PySem PySem.Spec PyProof.Rows
inductive V where
 | non | bl (b:Bool) | int (i:Int) | str (x:Str) | byt (b:Array UInt8) | flt (b:UInt64) | ref (a:Addr) | ty (n:String)
 deriving DecidableEq
def RelV:V→Value→Prop
 | .non,u=>u=Value.none
 | .bl b,u=>u=Value.bool b
 | .int i,u=>∃ t,u=Value.int i t
 | .str x,u=>∃ t,u=Value.str x t
 | .byt b,u=>∃ t,u=Value.bytes b t
 | .flt b,u=>∃ t,u=Value.float b t
 | .ref a,u=>u=Value.ref a
 | .ty n,u=>u=Value.type n
abbrev Vals:List V→List Value→Prop:=Paired RelV
theorem Vals.length {xs:List V} {us:List Value} (r:Vals xs us):xs.length=us.length:=Paired.length r
theorem Vals.get:∀ {xs:List V} {us:List Value} {i:Nat} {x:V},Vals xs us→xs[i]? = some x→∃ u,us[i]? = some u∧RelV x u
 | _,_,_,_,.nil,e=>by simp at e
 | _,_,0,_,.cons r _,e=>by simp at e; subst e; exact ⟨_,rfl,r⟩
 | _,_,i+1,x,.cons _ t,e=>by
  obtain ⟨u,h1,h2⟩:=Vals.get (i:=i) (x:=x) t (by simpa using e)
  exact ⟨u,by simpa using h1,h2⟩
theorem Vals.set {x:V} {u:Value} (r:RelV x u):∀ {xs:List V} {us:List Value} (i:Nat),Vals xs us→Vals (xs.set i x) (us.set i u)
 | _,_,_,.nil=>.nil
 | _,_,0,.cons _ t=>.cons r t
 | _,_,i+1,.cons q t=>.cons q (Vals.set r i t)
theorem Vals.append:∀ {xs ys:List V} {us ws:List Value},Vals xs us→Vals ys ws→Vals (xs ++ ys) (us ++ ws)
 | _,_,_,_,.nil,s=>s
 | _,_,_,_,.cons r t,s=>.cons r (Vals.append t s)
theorem Vals.take:∀ {xs:List V} {us:List Value} (n:Nat),Vals xs us→Vals (xs.take n) (us.take n)
 | _,_,0,_=>.nil
 | _,_,_+1,.nil=>.nil
 | _,_,n+1,.cons r t=>.cons r (Vals.take n t)
theorem Vals.drop:∀ {xs:List V} {us:List Value} (n:Nat),Vals xs us→Vals (xs.drop n) (us.drop n)
 | _,_,0,r=>r
 | _,_,_+1,.nil=>.nil
 | _,_,n+1,.cons _ t=>Vals.drop n t
theorem Vals.none_of:∀ {xs:List V} {us:List Value} {i:Nat},Vals xs us→xs[i]? = none→us[i]? = none:=fun {xs us i} r e=>by
 have h1:=r.length
 have h2:xs.length≤i:=List.getElem?_eq_none_iff.mp e
 exact List.getElem?_eq_none_iff.mpr (by omega)
def RelO:Option V→Option Value→Prop
 | some v,some u=>RelV v u
 | none,none=>True
 | _,_=>False
def KV {κ:Type}:List (κ × V)→List (κ × Value)→Prop:=Paired fun (p:κ × V) (q:κ × Value)=>p.1=q.1∧RelV p.2 q.2
def kV:Key→V
 | .inl i=>.int i
 | .inr x=>.str x
inductive HO where
  | lst (xs:List V)
  | tup (xs:List V)
  | dK (kvs:List (Key × V)) | dT (kvs:List (List Key × V))
  | set (S:Int→Bool) (n:Nat)
  | ins (C dx:Addr) (fs:List (Str × V))
  | own (x:Addr)
  | xd (fs:List (Str × V))
  | met (f x:Addr)
  | rng (lo hi:Int)
  | frz (o:Obj) (u:HO)
  | tbl (ps:Array Value)
  | ext (φ:Heap→Prop)
abbrev Hp:=Addr→Option HO
def upd (H:Hp) (a:Addr) (o:HO):Hp:=fun b=>if b=a then some o else H b
theorem upd_same {H:Hp} {a:Addr} {o:HO}:upd H a o a=some o:=by unfold upd; rw [if_pos rfl]
theorem upd_ne {H:Hp} {a b:Addr} {o:HO} (h:b≠a):upd H a o b=H b:=by unfold upd; rw [if_neg h]
theorem upd_upd {H:Hp} {a:Addr} {o u:HO}:upd (upd H a o) a u=upd H a u:=by
 funext b; unfold upd; split <;> rfl
theorem ne_of {H:Hp} {a b:Addr} {o u:HO} (h:H a=some o) (h':H b=some u) (d:o≠u):a≠b:=by
 intro e; subst e; rw [h] at h'; exact d (Option.some.inj h')
theorem ne_of_none {H:Hp} {a b:Addr} {o:HO} (h:H a=some o) (h':H b=none):a≠b:=by
 intro e; subst e; rw [h] at h'; cases h'
section
variable (P:Program) (w:World)
def ObjOk (H:Hp) (h:Heap) (a:Addr):HO→Prop
 | .lst xs=>xs.length≤sizeLine∧∃ (its:List Value) (n:Nat),Vals xs its∧h.get? a=some { cls:=.type "list",data:=.seq its.toArray n }
 | .tup xs=>xs.length≤sizeLine∧∃ its:List Value,Vals xs its∧IsTup h a its.toArray
 | .dK kvs=>kvs.length≤sizeLine∧(a==sysModules)=false∧∃ vs,KV kvs vs∧h.DictOf (mixKind P w) a vs
 | .dT kvs=>kvs.length≤sizeLine∧(a==sysModules)=false∧∃ xs:List (List Key × Addr × Value),
   Paired (fun (p:List Key × V) (q:List Key × Addr × Value)=>p.1=q.1∧H q.2.1=some (.tup (p.1.map kV))∧RelV p.2 q.2.2) kvs xs∧
   ∃ o es ep,h.get? a=some o∧o.ExactDict∧o.data=.dict es ep∧es.toList=xs.map (entryOfKey (tupleKind (mixKind P w)))∧(xs.map (·.1)).Nodup
 | .set S n=>h.SetOf (intKind P w) a S n
 | .ins C dx fs=>H dx=some (.own a)∧fs.length≤1000∧dx≠a∧h.get? a=some (PySem.W.instObj C dx)∧
   ∃ mA,h.Ns1 dx mA∧(∀ f,RelO (fs.lookup f) (mA f))∧PySem.Within mA (fs.map (·.1))
 | .own _=>∃ o,h.get? a=some o
 | .xd fs=>∃ mA,h.Ns1 a mA∧∀ f,RelO (fs.lookup f) (mA f)
 | .rng lo hi=>∃ t u v,h.get? a=some { cls:=.type "range",data:=.fields #[.int lo t,.int hi u,.int 1 v] }
 | .frz o u=>h.get? a=some o∧ObjOk H h a u
 | .tbl ps=>h.get? a=some { cls:=.none,data:=.fields ps }
 | .met f x=>h.get? a=some (PySem.W.methodObj (.ref f) (.ref x))
 | .ext φ=>φ h∧(∃ o,h.get? a=some o)∧∀ h1 h2:Heap,φ h1→(∀ o,h1.get? a=some o→h2.get? a=some o)→φ h2
def HOk (H:Hp) (h:Heap):Prop:=∀ a o,H a=some o→ObjOk P w H h a o
end
section
variable {P:Program} {w:World} {H H':Hp} {h h':Heap} {a:Addr} {o:HO}
theorem ObjOk.lt (x:ObjOk P w H h a o):a < h.objs.size:=by
 cases o with
 | lst xs=>obtain ⟨_,_,_,_,e⟩:=x; exact Heap.lt_size e
 | tup xs=>obtain ⟨_,_,_,p⟩:=x; exact p.lt
 | dK kvs=>obtain ⟨_,_,_,_,o,_,_,e,_⟩:=x; exact Heap.lt_size e
 | dT kvs=>obtain ⟨_,_,_,_,o,_,_,e,_⟩:=x; exact Heap.lt_size e
 | set S n=>obtain ⟨o,_,_,_,e,_⟩:=x; exact Heap.lt_size e
 | ins C dx fs=>obtain ⟨_,_,_,e,_⟩:=x; exact Heap.lt_size e
 | own y=>obtain ⟨_,e⟩:=x; exact Heap.lt_size e
 | xd fs=>obtain ⟨_,⟨_,_,_,e,_⟩,_⟩:=x; exact Heap.lt_size e
 | rng lo hi=>obtain ⟨_,_,_,e⟩:=x; exact Heap.lt_size e
 | frz ob u=>obtain ⟨e,_⟩:=x; exact Heap.lt_size e
 | tbl ps=>exact Heap.lt_size (show h.get? a=some _ from x)
 | met f y=>exact Heap.lt_size (show h.get? a=some _ from x)
 | ext φ=>obtain ⟨_,⟨_,e⟩,_⟩:=x; exact Heap.lt_size e
theorem Paired.mapP {α β:Type} {F G:α→β→Prop}:∀ {l₁:List α} {l₂:List β},Paired F l₁ l₂→(∀ a b,F a b→G a b)→Paired G l₁ l₂
 | _,_,.nil,_=>.nil
 | _,_,.cons r t,f=>.cons (f _ _ r) (Paired.mapP t f)
theorem ObjOk.stay (x:ObjOk P w H h a o) (k:∀ b u,(b=a∨H b=some (.own a))→h.get? b=some u→h'.get? b=some u)
  (ho:∀ b,H b=some (.own a)→H' b=some (.own a)) (ht:∀ b xs,H b=some (.tup xs)→H' b=some (.tup xs)):ObjOk P w H' h' a o:=by
 induction o with
 | lst xs=>obtain ⟨z,its,n,r,e⟩:=x; exact ⟨z,its,n,r,k _ _ (.inl rfl) e⟩
 | tup xs=>obtain ⟨z,its,r,ob,e,c⟩:=x; exact ⟨z,its,r,ob,k _ _ (.inl rfl) e,c⟩
 | dK kvs=>obtain ⟨z,y,vs,r,ob,es,ep,e,c⟩:=x; exact ⟨z,y,vs,r,ob,es,ep,k _ _ (.inl rfl) e,c⟩
 | dT kvs=>
  obtain ⟨z,y,xs,r,ob,es,ep,e,c⟩:=x
  exact ⟨z,y,xs,Paired.mapP r fun p q z=>⟨z.1,ht _ _ z.2.1,z.2.2⟩,ob,es,ep,k _ _ (.inl rfl) e,c⟩
 | set S n=>obtain ⟨ob,es,ep,t,e,c⟩:=x; exact ⟨ob,es,ep,t,k _ _ (.inl rfl) e,c⟩
 | ins C dx fs=>
  obtain ⟨d,z,ne,e,mA,⟨od,es,ep,e2,c⟩,r⟩:=x
  exact ⟨ho _ d,z,ne,k _ _ (.inl rfl) e,mA,⟨od,es,ep,k _ _ (.inr d) e2,c⟩,r⟩
 | own y=>obtain ⟨ob,e⟩:=x; exact ⟨ob,k _ _ (.inl rfl) e⟩
 | xd fs=>obtain ⟨mA,⟨od,es,ep,e,c⟩,r⟩:=x; exact ⟨mA,⟨od,es,ep,k _ _ (.inl rfl) e,c⟩,r⟩
 | rng lo hi=>obtain ⟨t,u,v,e⟩:=x; exact ⟨t,u,v,k _ _ (.inl rfl) e⟩
 | frz ob u ih=>obtain ⟨e,q⟩:=x; exact ⟨k _ _ (.inl rfl) e,ih q⟩
 | tbl ps=>
  have e:h.get? a=some { cls:=.none,data:=.fields ps }:=x
  show h'.get? a=some { cls:=.none,data:=.fields ps }
  exact k a _ (.inl rfl) e
 | met f y=>
  have e:h.get? a=some (PySem.W.methodObj (.ref f) (.ref y)):=x
  show h'.get? a=some (PySem.W.methodObj (.ref f) (.ref y))
  exact k a _ (.inl rfl) e
 | ext φ=>obtain ⟨p,⟨o,e⟩,st⟩:=x; exact ⟨st _ _ p fun o q=>k _ _ (.inl rfl) q,⟨o,k _ _ (.inl rfl) e⟩,st⟩
theorem HOk.lt (x:HOk P w H h) (e:H a=some o):a < h.objs.size:=(x a o e).lt
theorem HOk.fresh (x:HOk P w H h) (e:h.objs.size≤a):H a=none:=by
 cases q:H a with
 | none=>rfl
 | some u=>exact absurd (Nat.lt_of_lt_of_le (x.lt q) e) (Nat.lt_irrefl _)
theorem HOk.kept (x:HOk P w H h) (k:∀ b u,h.get? b=some u→h'.get? b=some u):HOk P w H h':=fun a o e=>
 (x a o e).stay (fun b u _ q=>k b u q) (fun _ q=>q) fun _ _ q=>q
theorem HOk.laid (x:HOk P w H h) (k:∀ b u,h.get? b=some u→h'.get? b=some u) (hp:h.objs.size≤a) (new:ObjOk P w (upd H a o) h' a o):HOk P w (upd H a o) h':=fun b u e=>by
 have hn:=x.fresh hp
 by_cases hb:b=a
 ·subst hb; rw [upd_same] at e; cases e; exact new
 ·rw [upd_ne hb] at e
  exact (x b u e).stay (fun c v _ q=>k c v q) (fun c q=>by rw [upd_ne (ne_of_none q hn)]; exact q) fun c xs q=>by rw [upd_ne (ne_of_none q hn)]; exact q
end
def Rd (H:Hp) (a:Addr) (u:HO):Prop:=H a=some u∨∃ o,H a=some (.frz o u)
theorem Rd.ok {P:Program} {w:World} {H:Hp} {h:Heap} {a:Addr} {u:HO} (r:Rd H a u) (x:HOk P w H h):ObjOk P w H h a u:=by
 rcases r with r | ⟨o,r⟩
 ·exact x a u r
 ·obtain ⟨_,q⟩:=x a _ r
  exact q
def Mut:Option HO→Prop
 | some (.lst _)=>True
 | some (.dK _)=>True
 | some (.dT _)=>True
 | some (.set _ _)=>True
 | some (.ins _ _ _)=>True
 | some (.ext _)=>True
 | _=>False
section
variable {P:Program} {w:World} {H:Hp} {h h':Heap} {x e:Addr} {o':HO}
theorem HOk.write (ok:HOk P w H h) (mu:Mut (H x)) (he:e=x∨H e=some (.own x)) (k:∀ b u,b≠e→h.get? b=some u→h'.get? b=some u) (heo:∃ u,h'.get? e=some u)
  (new:ObjOk P w (upd H x o') h' x o'):HOk P w (upd H x o') h':=fun b u q=>by
 have nown:∀ c y,H c=some (.own y)→c≠x:=fun c y r z=>by subst z; rw [r] at mu; exact mu
 have ntup:∀ c xs,H c=some (.tup xs)→c≠x:=fun c xs r z=>by subst z; rw [r] at mu; exact mu
 by_cases hb:b=x
 ·subst hb; rw [upd_same] at q; cases q; exact new
 ·rw [upd_ne hb] at q
  by_cases hbe:b=e
  ·have q':H b=some (.own x):=by
    rcases he with z | z
    ·exact absurd (hbe.trans z) hb
    ·rw [hbe]; exact z
   rw [q] at q'; cases q'
   obtain ⟨v,hv⟩:=heo
   exact ⟨v,by rw [hbe]; exact hv⟩
  ·refine (ok b u q).stay (fun c v hc r=>k c v ?_ r) (fun c r=>by rw [upd_ne (nown c b r)]; exact r) fun c xs r=>by rw [upd_ne (ntup c xs r)]; exact r
   rcases hc with rfl | hc
   ·exact hbe
   ·rintro rfl
    rcases he with z | z
    ·exact nown c b hc z
    ·rw [hc] at z; cases z; exact hb rfl
end
structure Un (fs ex:List Addr) (H H':Hp) (h h':Heap):Prop where
 keep:∀ b o,h.get? b=some o→H b=none→b∉fs→b∉ex→h'.get? b=some o
 slot:∀ b o,h.get? b=some o→H b=none→b∈fs→b∉ex→∃ sl,h'.get? b=some { o with slots:=sl }
 free:∀ b o,h.get? b=some o→H b=none→b∉ex→H' b=none
 there:∀ b o,h.get? b=some o→b∉ex→∃ o',h'.get? b=some o'
 tups:∀ b xs,H b=some (.tup xs)→H' b=some (.tup xs)
 frzs:∀ b o u,H b=some (.frz o u)→H' b=some (.frz o u)
 tbls:∀ b ps,H b=some (.tbl ps)→∃ more,H' b=some (.tbl (ps ++ more))
section
variable {fs fs' ex ex':List Addr} {H H1 H2:Hp} {h h1 h2 h':Heap} {a x e:Addr} {o:HO}
theorem Un.any (u:Un fs ex H H1 h h1) {b:Addr} {ob:Obj} (q:h.get? b=some ob) (n:H b=none) (hx:b∉ex):∃ sl,h1.get? b=some { ob with slots:=sl }:=by
 by_cases hb:b∈fs
 ·exact u.slot b ob q n hb hx
 ·exact ⟨ob.slots,u.keep b ob q n hb hx⟩
theorem Un.kept (k:∀ b u,h.get? b=some u→h'.get? b=some u):Un fs ex H H h h':=
 ⟨fun b ob q _ _ _=>k b ob q,fun b ob q _ _ _=>⟨ob.slots,k b ob q⟩,fun _ _ _ n _=>n,fun b ob q _=>⟨ob,k b ob q⟩,fun _ _ q=>q,fun _ _ _ q=>q,fun _ ps q=>⟨#[],by rw [q]; simp⟩⟩
theorem Un.refl:Un fs ex H H h h:=Un.kept fun _ _ q=>q
theorem Un.laid (k:∀ b u,h.get? b=some u→h'.get? b=some u) (hp:h.objs.size≤a) (hn:H a=none):Un fs ex H (upd H a o) h h' where
 keep:=fun b u q _ _ _=>k b u q
 slot:=fun b u q _ _ _=>⟨u.slots,k b u q⟩
 free:=fun b u q n _=>by rw [upd_ne (Nat.ne_of_lt (Nat.lt_of_lt_of_le (Heap.lt_size q) hp))]; exact n
 there:=fun b u q _=>⟨u,k b u q⟩
 tups:=fun b xs q=>by rw [upd_ne (ne_of_none q hn)]; exact q
 frzs:=fun b u xs q=>by rw [upd_ne (ne_of_none q hn)]; exact q
 tbls:=fun b ps q=>⟨#[],by rw [upd_ne (ne_of_none q hn),q]; simp⟩
theorem Un.write (mu:Mut (H x)) (he:e=x∨H e=some (.own x)) (k:∀ b u,b≠e→h.get? b=some u→h'.get? b=some u) (heo:∃ u,h'.get? e=some u):Un fs ex H (upd H x o) h h':=by
 have hx:∀ b,H b=none→b≠x:=fun b n z=>by subst z; rw [n] at mu; exact mu
 have hb:∀ b,H b=none→b≠e:=fun b n z=>by
  subst z
  rcases he with r | r
  ·exact hx b n r
  ·rw [n] at r; cases r
 have hm:∀ b u,H b=some u→¬ Mut (some u)→b≠x:=fun b u q nm z=>by subst z; rw [q] at mu; exact nm mu
 refine ⟨fun b u q n _ _=>k b u (hb b n) q,fun b u q n _ _=>⟨u.slots,k b u (hb b n) q⟩,fun b u q n _=>by rw [upd_ne (hx b n)]; exact n,fun b u q _=>?_,
  fun b xs q=>by rw [upd_ne (hm b _ q fun z=>z)]; exact q,fun b u xs q=>by rw [upd_ne (hm b _ q fun z=>z)]; exact q,fun b ps q=>⟨#[],by rw [upd_ne (hm b _ q fun z=>z),q]; simp⟩⟩
 by_cases hbe:b=e
 ·subst hbe; exact heo
 ·exact ⟨u,k b u hbe q⟩
end
def trk (h:Heap) (H:Hp):List Addr:=(List.range h.objs.size).filter fun a=>(H a).isSome
def hidT (h:Heap) (H:Hp):Heap:=PySem.W.hideAll h (trk h H)
theorem hidT_size (h:Heap) (H:Hp):(hidT h H).objs.size=h.objs.size:=PySem.W.hideAll_size _ _
theorem hidT_get {h:Heap} {H:Hp} {b:Addr} {o:Obj} (e:h.get? b=some o) (n:H b=none):(hidT h H).get? b=some o:=
 PySem.W.hideAll_get _ e fun hm=>by
  have q:(H b).isSome=true:=(List.mem_filter.mp hm).2
  rw [n] at q; simp at q
theorem of_hidT {h:Heap} {H:Hp} {b:Addr} {o:Obj} (e:(hidT h H).get? b=some o):h.get? b=some o∧H b=none:=by
 have e':h.get? b=some o:=PySem.W.of_hideAll (trk h H) e
 refine ⟨e',?_⟩
 cases q:H b with
 | none=>rfl
 | some x=>
  have hm:b∈trk h H:=List.mem_filter.mpr ⟨List.mem_range.mpr (Heap.lt_size e'),by simp [q]⟩
  have z:(hidT h H).get? b=none:=PySem.W.hideAll_none (trk h H) hm
  rw [z] at e; cases e
def allNews (g h:Heap) (L:Addr):List (Addr × Obj):=(List.range h.objs.size).filterMap fun a=>if a=L∨(g.get? a).isSome=true then none else (h.get? a).map fun o=>(a,o)
def rest (g h:Heap) (L d:Addr):List (Addr × Obj):=(allNews g h L).filter fun p=>decide (p.1≠d)
end L2
namespace L2
open PySem PySem.Spec PyProof.Rows
structure Mod (K:PySem.W.Frag) (mg:Str→Option Value) (base:Heap):Prop where
 kin:K.In base
 glob:base.Ns mainGlobals mg
 blt:∃ mb,base.Ns builtinsNs mb∧∀ x:Str,x≠"__name__"→mb x=bootBuiltins x
 nolimit:base.NoLimit
structure Cx where
 prog:Program
 w:World
 K:PySem.W.Frag
 mg:Str→Option Value
 base:Heap
 A:Around
 N:List Str
 s₀:Shared
 H₀:Hp
 env:Env
 outer:List Env
 stack:List Env
 ex:List Addr
 fn:Str→Bool
 calm:Bool
 pn:List (Addr × Obj)
 xe:Value→Shared→Prop
def frs (l:List Env):List Addr:=l.filterMap (·.frame)
abbrev Cx.fs (X:Cx):List Addr:=frs X.outer
def Vis (sc:Scope) (x:Str):Prop:=sc.names.lookup x=some .local∨sc.names.lookup x=some .cell∨sc.names.lookup x=some .free
def Loc (sc:Scope) (x:Str):Prop:=sc.names.lookup x=some .local∨sc.names.lookup x=some .cell
def Look (env:Env) (h:Heap) (m:Str→Option Value) (x:Str) (u:Value):Prop:=
 (env.kindOf x=some .local∧m x=some u)∨((env.kindOf x=some .cell∨env.kindOf x=some .free)∧∃ c,env.cells.lookup x=some c∧h.IsCell c (some u))
structure Cx.Ok (X:Cx):Prop where
 mod:Mod X.K X.mg X.base
 kind:X.env.scope.kind=.function
 glob:X.env.globals=mainGlobals
 blt:X.env.builtins=builtinsNs
 above:X.s₀.heap.objs.size≤X.env.locals
 inj:∀ x y c,X.env.cells.lookup x=some c→X.env.cells.lookup y=some c→x=y
 has:∀ x,(X.env.kindOf x=some .cell∨X.env.kindOf x=some .free)→∃ c,X.env.cells.lookup x=some c
 cab:∀ x c,X.fn x=true→X.env.cells.lookup x=some c→X.s₀.heap.objs.size≤c
 hd:X.calm=true→X.A.handled=none
 frames:X.A.frames=some X.stack
 stk:X.stack=X.outer∨(X.stack=X.env :: X.outer∧X.env.frame=some X.env.locals)
 exf:∀ b∈X.ex,b≠X.env.locals∧∀ x c,X.env.cells.lookup x=some c→c≠b
 bs:∀ b o,X.base.get? b=some o→X.s₀.heap.get? b=some o∧X.H₀ b=none
 bsz:X.base.objs.size≤X.s₀.heap.objs.size
 noex:∀ b o,X.base.get? b=some o→b∉X.ex
 exfs:∀ b∈X.ex,b∉X.fs
 funs:X.s₀.heap.FunFrames X.base X.outer
 frf:∀ b∈X.fs,X.H₀ b=none
structure Inv (X:Cx) (pins:List (Addr × Obj)) (σ:List (Option V)) (H:Hp) (s:Shared):Prop where
 ok:X.Ok
 os:s.os=X.s₀.os
 bare:AllBare s.gens
 base:Un X.fs X.ex X.H₀ H X.s₀.heap s.heap
 loc:∃ m,s.heap.Ns X.env.locals m∧∀ (i:Nat) (x:Str) (v:V),X.N[i]? = some x→σ[i]? = some (some v)→Vis X.env.scope x→∃ u,RelV v u∧Look X.env s.heap m x u
 cell:∀ x c,X.env.cells.lookup x=some c→∃ v,s.heap.IsCell c v
 free:H X.env.locals=none
 freeC:∀ x c,X.env.cells.lookup x=some c→H c=none
 pin:∀ p∈X.pn ++ pins,s.heap.get? p.1=some p.2∧H p.1=none∧p.1≠X.env.locals∧p.1∉X.fs∧∀ v,p.2.data≠.cell v
 hok:HOk X.prog X.w H s.heap
 len:σ.length=X.N.length
section
variable {X:Cx} {pins:List (Addr × Obj)} {σ:List (Option V)} {H H':Hp} {s:Shared} {h':Heap}
theorem Cx.Ok.nofr (ok:X.Ok) {b:Addr} {o:Obj} (e:X.base.get? b=some o):b∉X.fs:=fun hb=>by
 have:=(ok.funs.mem hb).1
 rw [e] at this; cases this
theorem Inv.bs (I:Inv X pins σ H s):∀ b o,X.base.get? b=some o→s.heap.get? b=some o∧H b=none:=fun b o e=>
 ⟨I.base.keep b o (I.ok.bs b o e).1 (I.ok.bs b o e).2 (I.ok.nofr e) (I.ok.noex b o e),I.base.free b o (I.ok.bs b o e).1 (I.ok.bs b o e).2 (I.ok.noex b o e)⟩
theorem Inv.bk (I:Inv X pins σ H s):∀ b o,X.base.get? b=some o→s.heap.get? b=some o:=fun b o e=>(I.bs b o e).1
theorem Inv.mod (I:Inv X pins σ H s):Mod X.K X.mg X.base:=I.ok.mod
theorem Inv.kIn (I:Inv X pins σ H s):X.K.In s.heap:=I.ok.mod.kin.keeps I.bk
theorem Inv.lt (I:Inv X pins σ H s):X.env.locals < s.heap.objs.size:=let ⟨_,hn,_⟩:=I.loc; hn.lt
theorem Inv.sz (I:Inv X pins σ H s):X.s₀.heap.objs.size≤s.heap.objs.size:=Nat.le_trans I.ok.above (Nat.le_of_lt I.lt)
theorem Inv.nofs (I:Inv X pins σ H s) {a:Addr} (h:s.heap.objs.size≤a):a∉X.fs:=fun hb=>by
 obtain ⟨_,o,ho,_⟩:=I.ok.funs.mem hb
 exact absurd (Nat.lt_of_lt_of_le (Heap.lt_size ho) (Nat.le_trans I.sz h)) (Nat.lt_irrefl _)
theorem Inv.cne (I:Inv X pins σ H s):∀ x c,X.env.cells.lookup x=some c→c≠X.env.locals:=fun x c e z=>by
 obtain ⟨v,o,ho,hd⟩:=I.cell x c e
 obtain ⟨m,⟨o',es,ep,ho',hd',_⟩,_⟩:=I.loc
 rw [z,ho'] at ho; cases ho; rw [hd'] at hd; cases hd
theorem Inv.funs (I:Inv X pins σ H s):s.heap.FunFrames X.base X.outer:=by
 have all:∀ (l:List Env),(∀ b∈frs l,b∈X.fs)→X.s₀.heap.FunFrames X.base l→s.heap.FunFrames X.base l:=by
  intro l
  induction l with
  | nil=>intro _ _; trivial
  | cons env r ih=>
   intro hs hl
   obtain ⟨hk,⟨L,o,hf,hn,ho,hd⟩,hr⟩:=hl
   have hL:L∈X.fs:=hs L (by unfold frs; rw [List.filterMap_cons,hf]; exact List.mem_cons_self)
   obtain ⟨sl,e⟩:=I.base.slot L o ho (I.ok.frf L hL) hL fun z=>I.ok.exfs L z hL
   exact ⟨hk,⟨L,_,hf,hn,e,hd⟩,ih (fun b hb=>hs b (by unfold frs; rw [List.filterMap_cons,hf]; exact List.mem_cons_of_mem _ hb)) hr⟩
 exact all X.outer (fun _ hb=>hb) I.ok.funs
theorem Inv.stack (I:Inv X pins σ H s):s.heap.FunFrames X.base X.stack:=by
 rcases I.ok.stk with e | ⟨e,hf⟩
 ·rw [e]; exact I.funs
 ·rw [e]
  obtain ⟨m,hn,_⟩:=I.loc
  refine .cons (by rw [I.ok.kind]; decide) hf hn ?_ I.funs
  exact Heap.get?_none_of_le (Nat.le_trans I.ok.bsz I.ok.above)
theorem Inv.stkSub (I:Inv X pins σ H s):∀ b∈frs X.stack,b∈X.env.locals :: X.fs:=fun b hb=>by
 rcases I.ok.stk with e | ⟨e,hf⟩
 ·rw [e] at hb; exact List.mem_cons_of_mem _ hb
 ·rw [e] at hb
  unfold frs at hb
  rw [List.filterMap_cons,hf] at hb
  exact hb
theorem Inv.stkFree (I:Inv X pins σ H s):∀ b∈frs X.stack,H b=none:=fun b hb=>by
 rcases List.mem_cons.mp (I.stkSub b hb) with e | hb
 ·rw [e]; exact I.free
 ·obtain ⟨_,o,ho,_⟩:=I.ok.funs.mem hb
  exact I.base.free b o ho (I.ok.frf b hb) fun z=>I.ok.exfs b z hb
theorem Inv.step {g':Array GenState} {t':Nat} {d':Drawn} {ch:List Addr} (I:Inv X pins σ H s)
  (hch:∀ b∈ch,(b∈X.ex∨X.s₀.heap.objs.size≤b)∧b≠X.env.locals∧(∀ x c,X.env.cells.lookup x=some c→c≠b)∧∀ p∈X.pn ++ pins,p.1≠b)
  (keep:∀ b o,b≠X.env.locals→b∉X.fs→b∉ch→s.heap.get? b=some o→H b=none→h'.get? b=some o)
  (slot:∀ b o,b≠X.env.locals→b∈X.fs→b∉ch→s.heap.get? b=some o→H b=none→∃ sl,h'.get? b=some { o with slots:=sl }) (free:∀ b o,b∉ch→s.heap.get? b=some o→H b=none→H' b=none)
  (there:∀ b o,b∉ch→s.heap.get? b=some o→∃ o',h'.get? b=some o')
  (tups:∀ b xs,H b=some (.tup xs)→H' b=some (.tup xs)) (frzs:∀ b o u,H b=some (.frz o u)→H' b=some (.frz o u)) (tbls:∀ b ps,H b=some (.tbl ps)→∃ more,H' b=some (.tbl (ps ++ more)))
  (ns:∀ m,s.heap.Ns X.env.locals m→h'.Ns X.env.locals m) (hok:HOk X.prog X.w H' h') (hg:AllBare g') :
  Inv X pins σ H' { s with heap:=h',gens:=g',drawn:=d',toks:=t' }:=by
 have neL:∀ b o,X.s₀.heap.get? b=some o→b≠X.env.locals:=fun b o e=>Nat.ne_of_lt (Nat.lt_of_lt_of_le (Heap.lt_size e) I.ok.above)
 have neC:∀ b o,X.s₀.heap.get? b=some o→b∉X.ex→b∉ch:=fun b o e hx hb=>by
  rcases (hch b hb).1 with z | z
  ·exact hx z
  ·exact absurd (Nat.lt_of_lt_of_le (Heap.lt_size e) z) (Nat.lt_irrefl _)
 have cellK:∀ x c,X.env.cells.lookup x=some c→∀ v,s.heap.IsCell c v→h'.IsCell c v:=fun x c e v ⟨o,ho,hd⟩=>by
  have nch:c∉ch:=fun z=>(hch c z).2.2.1 x c e rfl
  by_cases hc:c∈X.fs
  ·obtain ⟨sl,q⟩:=slot c o (I.cne x c e) hc nch ho (I.freeC x c e)
   exact ⟨_,q,hd⟩
  ·exact ⟨o,keep c o (I.cne x c e) hc nch ho (I.freeC x c e),hd⟩
 refine ⟨I.ok,I.os,hg,⟨fun b o e n hb hx=>?_,fun b o e n hb hx=>?_,fun b o e n hx=>?_,fun b o e hx=>?_,fun b xs e=>tups b xs (I.base.tups b xs e),fun b o xs e=>frzs b o xs (I.base.frzs b o xs e),fun b ps e=>?_⟩,?_,fun x c e=>?_,?_,fun x c e=>?_,fun p hp=>?_,hok,I.len⟩
 ·exact keep b o (neL b o e) hb (neC b o e hx) (I.base.keep b o e n hb hx) (I.base.free b o e n hx)
 ·obtain ⟨sl,e1⟩:=I.base.slot b o e n hb hx
  obtain ⟨sl',e2⟩:=slot b _ (neL b o e) hb (neC b o e hx) e1 (I.base.free b o e n hx)
  exact ⟨sl',e2⟩
 ·obtain ⟨o',e1⟩:=I.base.there b o e hx
  exact free b o' (neC b o e hx) e1 (I.base.free b o e n hx)
 ·obtain ⟨o',e1⟩:=I.base.there b o e hx
  exact there b o' (neC b o e hx) e1
 ·obtain ⟨m1,e1⟩:=I.base.tbls b ps e
  obtain ⟨m2,e2⟩:=tbls b _ e1
  exact ⟨m1 ++ m2,by rw [e2,Array.append_assoc]⟩
 ·obtain ⟨m,hn,hl⟩:=I.loc
  refine ⟨m,ns m hn,fun i x v e1 e2 e3=>?_⟩
  obtain ⟨u,r,l⟩:=hl i x v e1 e2 e3
  refine ⟨u,r,?_⟩
  rcases l with l | ⟨k,c,e,z⟩
  ·exact .inl l
  ·exact .inr ⟨k,c,e,cellK x c e _ z⟩
 ·obtain ⟨v,z⟩:=I.cell x c e
  exact ⟨v,cellK x c e v z⟩
 ·obtain ⟨m,⟨o,_,_,ho,_⟩,_⟩:=I.loc
  exact free _ o (fun z=>(hch _ z).2.1 rfl) ho I.free
 ·obtain ⟨v,o,ho,hd⟩:=I.cell x c e
  exact free c o (fun z=>(hch c z).2.2.1 x c e rfl) ho (I.freeC x c e)
 ·obtain ⟨e,n,ne,nf,d⟩:=I.pin p hp
  have nch:p.1∉ch:=fun z=>(hch p.1 z).2.2.2 p hp rfl
  exact ⟨keep p.1 p.2 ne nf nch e n,free p.1 p.2 nch e n,ne,nf,d⟩
theorem Inv.un {t':Nat} (I:Inv X pins σ H s) (u:Un X.fs [] H H' s.heap h') (hok:HOk X.prog X.w H' h'):Inv X pins σ H' { s with heap:=h',toks:=t' }:=by
 obtain ⟨m,⟨o,es,ep,ho,r⟩,_⟩:=id I.loc
 obtain ⟨sl,hL⟩:=u.any ho I.free (by simp)
 exact I.step (g':=s.gens) (d':=s.drawn) (ch:=[]) (fun _ z=>nomatch z) (fun b o _ hb _ e n=>u.keep b o e n hb (by simp)) (fun b o _ hb _ e n=>u.slot b o e n hb (by simp)) (fun b o _ e n=>u.free b o e n (by simp)) (fun b o _ e=>u.there b o e (by simp)) u.tups u.frzs u.tbls (fun m' hm=>by
  obtain ⟨o',es',ep',ho',r'⟩:=hm
  rw [ho] at ho'; cases ho'
  exact ⟨_,es',ep',hL,r'⟩) hok I.bare
theorem Inv.call {g':Array GenState} {t':Nat} {d':Drawn} {ch:List Addr} (I:Inv X pins σ H s) (u:Un (frs X.stack) ch H H' s.heap h') (hok:HOk X.prog X.w H' h') (hg:AllBare g')
  (hch:∀ b∈ch,(b∈X.ex∨X.s₀.heap.objs.size≤b)∧b≠X.env.locals∧(∀ x c,X.env.cells.lookup x=some c→c≠b)∧∀ p∈X.pn ++ pins,p.1≠b) :
  Inv X pins σ H' { s with heap:=h',gens:=g',drawn:=d',toks:=t' }:=by
 obtain ⟨m,⟨o,es,ep,ho,r⟩,_⟩:=id I.loc
 obtain ⟨sl,hL⟩:=u.any ho I.free fun z=>(hch _ z).2.1 rfl
 exact I.step (ch:=ch) hch (fun b o hL hb hc e n=>u.keep b o e n (fun z=>(List.mem_cons.mp (I.stkSub b z)).elim hL hb) hc) (fun b o _ _ hc e n=>u.any e n hc) (fun b o hc e n=>u.free b o e n hc) (fun b o hc e=>u.there b o e hc) u.tups u.frzs u.tbls (fun m' hm=>by
  obtain ⟨o',es',ep',ho',r'⟩:=hm
  rw [ho] at ho'; cases ho'
  exact ⟨_,es',ep',hL,r'⟩) hok hg
theorem Inv.turned {t':Nat} {it:Addr} (I:Inv X pins σ H s) (k:∀ b o,b≠it→s.heap.get? b=some o→h'.get? b=some o) (hn:H it=none) (hL:it≠X.env.locals)
  (h1:it∈X.ex∨X.s₀.heap.objs.size≤it) (h2:∀ x c,X.env.cells.lookup x=some c→c≠it) (h3:∀ p∈X.pn ++ pins,p.1≠it):Inv X pins σ H { s with heap:=h',toks:=t' }:=by
 have nit:∀ b u,H b=some u→b≠it:=fun b u e z=>by rw [z,hn] at e; cases e
 refine I.step (g':=s.gens) (d':=s.drawn) (ch:=[it]) (fun b hb=>?_) (fun b o _ _ hc e _=>k b o (fun z=>hc (by simp [z])) e) (fun b o _ _ hc e _=>⟨o.slots,k b o (fun z=>hc (by simp [z])) e⟩) (fun _ _ _ _ n=>n)
  (fun b o hc e=>⟨o,k b o (fun z=>hc (by simp [z])) e⟩) (fun _ _ e=>e) (fun _ _ _ e=>e) (fun b ps e=>⟨#[],by rw [e]; simp⟩) (fun m hm=>?_) (fun b u e=>?_) I.bare
 ·have e:b=it:=by simpa using hb
  subst e
  exact ⟨h1,hL,h2,h3⟩
 ·obtain ⟨o,es,ep,ho,r⟩:=hm
  exact ⟨o,es,ep,k _ o (Ne.symm hL) ho,r⟩
 ·refine (I.hok b u e).stay (fun c v hc q=>k c v ?_ q) (fun _ q=>q) fun _ _ q=>q
  rcases hc with z | z
  ·rw [z]; exact nit b u e
  ·exact nit c _ z
theorem Inv.tok (I:Inv X pins σ H s) (t:Nat):Inv X pins σ H { s with toks:=t }:=I.un (h':=s.heap) (t':=t) Un.refl I.hok
theorem Inv.kept {t':Nat} (I:Inv X pins σ H s) (k:∀ b u,s.heap.get? b=some u→h'.get? b=some u):Inv X pins σ H { s with heap:=h',toks:=t' }:=I.un (Un.kept k) (I.hok.kept k)
theorem Inv.laid {a:Addr} {o:HO} {t':Nat} (I:Inv X pins σ H s) (k:∀ b u,s.heap.get? b=some u→h'.get? b=some u) (hp:s.heap.objs.size≤a) (new:ObjOk X.prog X.w (upd H a o) h' a o) :
  Inv X pins σ (upd H a o) { s with heap:=h',toks:=t' }:=I.un (Un.laid k hp (I.hok.fresh hp)) (I.hok.laid k hp new)
theorem Inv.write {x e:Addr} {o:HO} {t':Nat} (I:Inv X pins σ H s) (mu:Mut (H x)) (he:e=x∨H e=some (.own x)) (k:∀ b u,b≠e→s.heap.get? b=some u→h'.get? b=some u) (heo:∃ u,h'.get? e=some u)
  (new:ObjOk X.prog X.w (upd H x o) h' x o):Inv X pins σ (upd H x o) { s with heap:=h',toks:=t' }:=I.un (Un.write mu he k heo) (I.hok.write mu he k heo new)
theorem Inv.weak {σ':List (Option V)} (I:Inv X pins σ H s) (hl:σ'.length=σ.length) (w:∀ (i:Nat) v,σ'[i]? = some (some v)→σ[i]? = some (some v)):Inv X pins σ' H s:=
 ⟨I.ok,I.os,I.bare,I.base,let ⟨m,hn,hl'⟩:=I.loc; ⟨m,hn,fun i x v e1 e2 e3=>hl' i x v e1 (w i v e2) e3⟩,I.cell,I.free,I.freeC,I.pin,I.hok,hl.trans I.len⟩
theorem Inv.pins_of {pins':List (Addr × Obj)} (I:Inv X pins σ H s) (h:∀ p∈pins',s.heap.get? p.1=some p.2∧H p.1=none∧p.1≠X.env.locals∧p.1∉X.fs∧∀ v,p.2.data≠.cell v):Inv X pins' σ H s:=
 ⟨I.ok,I.os,I.bare,I.base,I.loc,I.cell,I.free,I.freeC,fun p hp=>(List.mem_append.mp hp).elim (fun z=>I.pin p (List.mem_append_left _ z)) (h p),I.hok,I.len⟩
theorem nodup_ix {N:List Str} (hN:N.Nodup) {i j:Nat} {x:Str} (a:N[i]? = some x) (b:N[j]? = some x):i=j:=by
 obtain ⟨h1,e1⟩:=List.getElem?_eq_some_iff.mp a
 obtain ⟨h2,e2⟩:=List.getElem?_eq_some_iff.mp b
 exact (List.getElem_inj hN).mp (e1.trans e2.symm)
theorem store_ok2 {M:Model} {A:Around} {E:Value→Shared→Prop} {i:Nat} {x:Str} {v:V} {u:Value} {Q:Unit→Shared→Prop} (I:Inv X pins σ H s) (hN:X.N.Nodup) (hi:X.N[i]? = some x) (hx:Loc X.env.scope x) (r:RelV v u)
  (h:∀ s',Inv X pins (σ.set i (some v)) H s'→(∃ a,Heap.SameBut a s.heap s'.heap∧(a=X.env.locals∨X.env.cells.lookup x=some a))→Q () s') (hf:X.fn x=true∨X.env.scope.names.lookup x=some .local:=by first | exact .inl rfl | exact .inr rfl | assumption):wpAny M A (storeName X.env x u) Q E s:=by
 obtain ⟨m,hn,hl⟩:=id I.loc
 have hcls:(X.env.scope.kind==.class || (X.env.scope.kind==.module && X.env.locals != X.env.globals))=false:=by rw [I.ok.kind]; rfl
 have hiσ:i < σ.length:=by rw [I.len]; exact (List.getElem?_eq_some_iff.mp hi).1
 have cne:=I.cne
 have tracked:∀ {a:Addr} {h':Heap},(∃ o,s.heap.get? a=some o∧H a=none)→Heap.SameBut a s.heap h'→HOk X.prog X.w H h':=fun {a h'} ha hs b ob e=>by
  obtain ⟨_,_,hfree⟩:=ha
  refine (I.hok b ob e).stay (fun c w' hc q=>(hs.2 c ?_).trans q) (fun _ q=>q) fun _ _ q=>q
  rintro rfl
  rcases hc with rfl | hc
  ·rw [hfree] at e; cases e
  ·rw [hfree] at hc; cases hc
 rcases hx with hk | hk
 ·refine wpAny_storeName_local hk hn (fun h' hn' hs=>?_) hcls
  obtain ⟨oL,_,_,hoL,_⟩:=id hn
  refine h _ ⟨I.ok,I.os,I.bare,⟨fun b o e n hb hx=>?_,fun b o e n hb hx=>?_,I.base.free,fun b o e hx=>?_,I.base.tups,I.base.frzs,I.base.tbls⟩,⟨_,hn',fun j y v' e1 e2 e3=>?_⟩,fun y c e=>?_,I.free,I.freeC,fun p hp=>?_,tracked ⟨oL,hoL,I.free⟩ hs,by simpa using I.len⟩ ⟨_,hs,.inl rfl⟩
  ·exact (hs.2 b (Nat.ne_of_lt (Nat.lt_of_lt_of_le (Heap.lt_size e) I.ok.above))).trans (I.base.keep b o e n hb hx)
  ·obtain ⟨sl,e1⟩:=I.base.slot b o e n hb hx
   exact ⟨sl,(hs.2 b (Nat.ne_of_lt (Nat.lt_of_lt_of_le (Heap.lt_size e) I.ok.above))).trans e1⟩
  ·obtain ⟨o',e1⟩:=I.base.there b o e hx
   exact ⟨o',(hs.2 b (Nat.ne_of_lt (Nat.lt_of_lt_of_le (Heap.lt_size e) I.ok.above))).trans e1⟩
  ·by_cases hj:j=i
   ·subst hj
    rw [hi] at e1; cases e1
    rw [List.getElem?_set_self hiσ] at e2
    cases e2
    exact ⟨u,r,.inl ⟨hk,by simp⟩⟩
   ·rw [List.getElem?_set_ne (Ne.symm hj)] at e2
    obtain ⟨u',r',q⟩:=hl j y v' e1 e2 e3
    refine ⟨u',r',?_⟩
    rcases q with ⟨k,e⟩ | ⟨k,c,e,z⟩
    ·refine .inl ⟨k,?_⟩
     have:y≠x:=fun e=>hj (nodup_ix hN e1 (e▸hi))
     simp [this,e]
    ·exact .inr ⟨k,c,e,z.sameBut hs (cne y c e)⟩
  ·obtain ⟨w',z⟩:=I.cell y c e
   exact ⟨w',z.sameBut hs (cne y c e)⟩
  ·obtain ⟨e,n,ne,nf,d⟩:=I.pin p hp
   exact ⟨(hs.2 p.1 ne).trans e,n,ne,nf,d⟩
 ·have hfn:X.fn x=true:=by
   rcases hf with z | z
   ·exact z
   ·rw [z] at hk; cases hk
  obtain ⟨c,hc⟩:=I.ok.has x (.inl hk)
  obtain ⟨w',z⟩:=I.cell x c hc
  refine wpAny_storeName_cell I.ok.kind hk hc z (fun h' hc' hs=>?_)
  obtain ⟨oc,hoc,hocd⟩:=id z
  refine h { s with heap:=h' } ⟨I.ok,I.os,I.bare,⟨fun b o e n hb hx=>?_,fun b o e n hb hx=>?_,I.base.free,fun b o e hx=>?_,I.base.tups,I.base.frzs,I.base.tbls⟩,⟨m,hn.sameBut hs (Ne.symm (cne x c hc)),fun j y v' e1 e2 e3=>?_⟩,fun y c' e=>?_,I.free,I.freeC,fun p hp=>?_,tracked ⟨oc,hoc,I.freeC x c hc⟩ hs,by simpa using I.len⟩ ⟨c,hs,.inr hc⟩
  ·exact (hs.2 b (Nat.ne_of_lt (Nat.lt_of_lt_of_le (Heap.lt_size e) (I.ok.cab x c hfn hc)))).trans (I.base.keep b o e n hb hx)
  ·obtain ⟨sl,e1⟩:=I.base.slot b o e n hb hx
   exact ⟨sl,(hs.2 b (Nat.ne_of_lt (Nat.lt_of_lt_of_le (Heap.lt_size e) (I.ok.cab x c hfn hc)))).trans e1⟩
  ·obtain ⟨o',e1⟩:=I.base.there b o e hx
   exact ⟨o',(hs.2 b (Nat.ne_of_lt (Nat.lt_of_lt_of_le (Heap.lt_size e) (I.ok.cab x c hfn hc)))).trans e1⟩
  ·by_cases hj:j=i
   ·subst hj
    rw [hi] at e1; cases e1
    rw [List.getElem?_set_self hiσ] at e2
    cases e2
    exact ⟨u,r,.inr ⟨.inl hk,c,hc,hc'⟩⟩
   ·rw [List.getElem?_set_ne (Ne.symm hj)] at e2
    obtain ⟨u',r',q⟩:=hl j y v' e1 e2 e3
    refine ⟨u',r',?_⟩
    rcases q with q | ⟨k,c',e,z'⟩
    ·exact .inl q
    ·refine .inr ⟨k,c',e,z'.sameBut hs ?_⟩
     rintro rfl
     exact hj (nodup_ix hN e1 (I.ok.inj _ _ _ e hc▸hi))
  ·by_cases hcc:c'=c
   ·subst hcc; exact ⟨_,hc'⟩
   ·obtain ⟨w2,z2⟩:=I.cell y c' e
    exact ⟨w2,z2.sameBut hs hcc⟩
  ·obtain ⟨e,n,ne,nf,d⟩:=I.pin p hp
   refine ⟨(hs.2 p.1 ?_).trans e,n,ne,nf,d⟩
   intro q
   rw [q,hoc] at e
   have q':oc=p.2:=Option.some.inj e
   exact d w' (by rw [← q']; exact hocd)
theorem store_ok {M:Model} {A:Around} {E:Value→Shared→Prop} {i:Nat} {x:Str} {v:V} {u:Value} {Q:Unit→Shared→Prop} (I:Inv X pins σ H s) (hN:X.N.Nodup) (hi:X.N[i]? = some x) (hx:Loc X.env.scope x) (r:RelV v u)
  (h:∀ s',Inv X pins (σ.set i (some v)) H s'→Q () s') (hf:X.fn x=true∨X.env.scope.names.lookup x=some .local:=by first | exact .inl rfl | exact .inr rfl | assumption):wpAny M A (storeName X.env x u) Q E s:=
 store_ok2 I hN hi hx r (fun s' I' _=>h s' I') hf
theorem Inv.call' {s':Shared} {ch:List Addr} (I:Inv X pins σ H s) (ho:s'.os=s.os) (u:Un (frs X.stack) ch H H' s.heap s'.heap) (hok:HOk X.prog X.w H' s'.heap) (hg:AllBare s'.gens)
  (hch:∀ b∈ch,(b∈X.ex∨X.s₀.heap.objs.size≤b)∧b≠X.env.locals∧(∀ x c,X.env.cells.lookup x=some c→c≠b)∧∀ p∈X.pn ++ pins,p.1≠b):Inv X pins σ H' s':=by
 obtain ⟨h',g',d',t',o'⟩:=s'
 have e:o'=s.os:=ho
 subst e
 exact I.call (g':=g') (t':=t') (d':=d') u hok hg hch
end
abbrev XK:=Value→Option Addr→Hp→Prop
abbrev St:=List (Option V)
abbrev VK:=V→Hp→Prop
abbrev TE:=St→Hp→VK→Prop
abbrev TT:=St→Hp→(Bool→Hp→Prop)→Prop
abbrev TA:=St→Hp→(List V→Hp→Prop)→Prop
structure Ends where
 nx:St→Hp→Prop
 rt:VK
 bk:St→Hp→Prop:=fun _ _=>False
 ct:St→Hp→Prop:=fun _ _=>False
abbrev TS:=Ends→St→Hp→Prop
def EP (X:Cx) (pins:List (Addr × Obj)) (σ:St) (Q:VK) (u:Value) (s':Shared):Prop:=∃ v H',Inv X pins σ H' s'∧RelV v u∧Q v H'
def TP (X:Cx) (pins:List (Addr × Obj)) (σ:St) (Q:Bool→Hp→Prop) (b:Bool) (s':Shared):Prop:=∃ H',Inv X pins σ H' s'∧Q b H'
def AP (X:Cx) (pins:List (Addr × Obj)) (σ:St) (Q:List V→Hp→Prop) (us:List Value) (s':Shared):Prop:=∃ vs H',Inv X pins σ H' s'∧Vals vs us∧Q vs H'
def SP (X:Cx) (pins:List (Addr × Obj)) (D:Ends) (f:Flow) (s':Shared):Prop:=
 match f with
 | .next=>∃ σ' H',Inv X pins σ' H' s'∧D.nx σ' H'
 | .brk=>∃ σ' H',Inv X pins σ' H' s'∧D.bk σ' H'
 | .cont=>∃ σ' H',Inv X pins σ' H' s'∧D.ct σ' H'
 | .ret u=>∃ v σ' H',Inv X pins σ' H' s'∧RelV v u∧D.rt v H'
def PE (X:Cx) (e:Expr) (t:TE):Prop:=
 ∀ (pins:List (Addr × Obj)) (s:Shared) (σ:St) (H:Hp) (Q:VK),Inv X pins σ H s→t σ H Q→wpAny (model X.prog X.w) X.A (eval e X.env) (EP X pins σ Q) X.xe s
def PT (X:Cx) (e:Expr) (t:TT):Prop:=
 ∀ (pins:List (Addr × Obj)) (s:Shared) (σ:St) (H:Hp) (Q:Bool→Hp→Prop),Inv X pins σ H s→t σ H Q→wpAny (model X.prog X.w) X.A (isTrue e X.env (eval e X.env)) (TP X pins σ Q) X.xe s
def PW (X:Cx) (e:Expr) (t:TT):Prop:=
 ∀ (whole:Sem Value) (pins:List (Addr × Obj)) (s:Shared) (σ:St) (H:Hp) (Q:Bool→Hp→Prop),Inv X pins σ H s→t σ H Q→wpAny (model X.prog X.w) X.A (isTrue e X.env whole) (TP X pins σ Q) X.xe s
theorem PW.pt {X:Cx} {e:Expr} {t:TT} (h:PW X e t):PT X e t:=h _
def PA (X:Cx) (es:List Expr) (t:TA):Prop:=
 ∀ (pos:Pos) (pins:List (Addr × Obj)) (s:Shared) (σ:St) (H:Hp) (Q:List V→Hp→Prop),Inv X pins σ H s→t σ H Q→wpAny (model X.prog X.w) X.A (spliced (backTo pos (starEach es X.env))) (AP X pins σ Q) X.xe s
def PS (X:Cx) (st:Stmt) (t:TS):Prop:=
 ∀ (pins:List (Addr × Obj)) (s:Shared) (σ:St) (H:Hp) (D:Ends),Inv X pins σ H s→t D σ H→wpAny (model X.prog X.w) X.A (exec st X.env) (SP X pins D) X.xe s
def PSs (X:Cx) (st:List Stmt) (t:TS):Prop:=
 ∀ (pins:List (Addr × Obj)) (s:Shared) (σ:St) (H:Hp) (D:Ends),Inv X pins σ H s→t D σ H→wpAny (model X.prog X.w) X.A (execs st X.env) (SP X pins D) X.xe s
theorem thn {α:Type} {t:Sem α} {Q Q':α→Shared→Prop} {M:Model} {A:Around} {E:Value→Shared→Prop} {s:Shared} (h:wpAny M A t Q E s) (hQ:∀ a s,Q a s→Q' a s):wpAny M A t Q' E s:=wpAny_mono h hQ fun _ _ x=>x
end L2
namespace L2
open PySem PySem.Spec PyProof.Rows
section
variable {X:Cx}
inductive tVarI (i:Nat) (σ:St) (H:Hp) (Q:VK):Prop
 | mk (v:_) (h1:σ[i]? = some (some v)) (h2:Q v H):tVarI i σ H Q
def tVar (i:Nat):TE:=fun σ H Q=>tVarI i σ H Q
def tC (v:V):TE:=fun _ H Q=>Q v H
theorem pe_var {i:Nat} {x:Str} {pos:Pos} (hN:X.N[i]? = some x) (hv:Vis X.env.scope x) (hd:(x==("__debug__" : Str))=false:=by decide) (hcd:(x==("__classdict__" : Str))=false:=by decide):PE X (.Name x pos) (tVar i):=by
 intro pins s σ H Q I h
 obtain ⟨v,e,h⟩:=h
 obtain ⟨m,hn,hl⟩:=I.loc
 obtain ⟨u,r,l⟩:=hl i x v hN e hv
 have fin:EP X pins σ Q u s:=⟨v,H,I,r,h⟩
 rcases l with ⟨hk,hm⟩ | ⟨hk,c,hc,hcell⟩
 ·exact wpAny_Name (wpAny_loadName_local I.ok.kind hk hn hm fin) hd
 ·rcases hk with hk | hk
  ·exact wpAny_Name (wpAny_loadName_cell I.ok.kind hk hc hcell fin) hd
  ·exact wpAny_Name (wpAny_loadName_free I.ok.kind hk hc hcell fin hcd) hd
theorem pe_int {i j pos}:PE X (.Constant (.int i) j pos) (tC (.int i)):=fun _ _ _ H _ I h=>wpAny_Constant_int ⟨.int i,H,I.tok _,⟨_,rfl⟩,h⟩
theorem pe_bl {b j pos}:PE X (.Constant (.bool b) j pos) (tC (.bl b)):=fun _ _ _ H _ I h=>Constant_bool ⟨.bl b,H,I,rfl,h⟩
theorem pe_non {j pos}:PE X (.Constant .none j pos) (tC .non):=fun _ _ _ H _ I h=>Constant_none ⟨.non,H,I,rfl,h⟩
theorem pe_str {x j pos}:PE X (.Constant (.str x) j pos) (tC (.str x)):=fun _ _ _ H _ I h=>Calls.Constant_str ⟨.str x,H,I.tok _,⟨_,rfl⟩,h⟩
def Gl (X:Cx) (x:Str):Prop:=X.env.kindOf x=some .globalImplicit
theorem ld_glob {E:Value→Shared→Prop} {pins:List (Addr × Obj)} {s:Shared} {σ:St} {H:Hp} {x:Str} {u:Value} {pos:Pos} {Q:Value→Shared→Prop} (I:Inv X pins σ H s) (hg:Gl X x) (hm:X.mg x=some u) (h:Q u s)
  (hd:(x==("__debug__" : Str))=false:=by decide):wpAny (model X.prog X.w) X.A (eval (.Name x pos) X.env) Q E s:=
 Calls.Name_function_global I.ok.kind hg (Calls.loadGlobal_global (by rw [I.ok.glob]; exact I.mod.glob.keeps I.bk) hm h) hd
theorem ld_blt {E:Value→Shared→Prop} {pins:List (Addr × Obj)} {s:Shared} {σ:St} {H:Hp} {x:Str} {u:Value} {pos:Pos} {Q:Value→Shared→Prop} (I:Inv X pins σ H s) (hg:Gl X x) (hm:X.mg x=none) (hv:bootBuiltins x=some u) (h:Q u s)
  (hn:x≠"__name__":=by decide) (hd:(x==("__debug__" : Str))=false:=by decide):wpAny (model X.prog X.w) X.A (eval (.Name x pos) X.env) Q E s:=by
 obtain ⟨mb,h1,h2⟩:=I.mod.blt
 exact Calls.Name_function_global I.ok.kind hg (Calls.loadGlobal_builtin (by rw [I.ok.glob]; exact I.mod.glob.keeps I.bk) hm (by rw [I.ok.blt]; exact h1.keeps I.bk) ((h2 x hn).trans hv) h) hd
theorem pe_glob {x:Str} {v:V} {u:Value} {pos:Pos} (hg:Gl X x) (hm:X.mg x=some u) (r:RelV v u) (hd:(x==("__debug__" : Str))=false:=by decide):PE X (.Name x pos) (tC v):=
 fun _ _ _ H _ I h=>ld_glob I hg hm ⟨v,H,I,r,h⟩ hd
theorem pe_bltn {x:Str} {v:V} {u:Value} {pos:Pos} (hg:Gl X x) (hm:X.mg x=none) (hv:bootBuiltins x=some u) (r:RelV v u) (hn:x≠"__name__":=by decide) (hd:(x==("__debug__" : Str))=false:=by decide):PE X (.Name x pos) (tC v):=
 fun _ _ _ H _ I h=>ld_blt I hg hm hv ⟨v,H,I,r,h⟩ hn hd
variable {a b:Expr} {ta tb:TE} {pos:Pos}
variable {tA tB':TT} {rest:List Expr}
def tAnd (t u:TT):TT:=fun σ H Q=>t σ H fun c H1=>if c=true then u σ H1 Q else Q false H1
def tOr (t u:TT):TT:=fun σ H Q=>t σ H fun c H1=>if c=true then Q true H1 else u σ H1 Q
def tNot (t:TT):TT:=fun σ H Q=>t σ H fun c H1=>Q (!c) H1
theorem pw_and1 (ha:PT X a tA):PW X (.BoolOp .And [a] pos) tA:=by
 intro wh pins s σ H Q I h
 refine isTrue_and (thn (ha pins s σ H Q I h) fun c s1 e=>?_)
 cases c with
 | true=>exact isTrue_and_nil e
 | false=>exact e
theorem pw_or1 (ha:PT X a tA):PW X (.BoolOp .Or [a] pos) tA:=by
 intro wh pins s σ H Q I h
 refine isTrue_or (thn (ha pins s σ H Q I h) fun c s1 e=>?_)
 cases c with
 | false=>exact isTrue_or_nil e
 | true=>exact e
theorem pw_and (ha:PT X a tA) (hb:PW X (.BoolOp .And (b :: rest) pos) tB'):PW X (.BoolOp .And (a :: b :: rest) pos) (tAnd tA tB'):=by
 intro wh pins s σ H Q I h
 refine isTrue_and (thn (ha pins s σ H _ I h) fun c s1 ⟨H1,I1,q1⟩=>?_)
 cases c with
 | true=>exact hb wh pins s1 σ H1 Q I1 q1
 | false=>exact ⟨H1,I1,q1⟩
theorem pw_or (ha:PT X a tA) (hb:PW X (.BoolOp .Or (b :: rest) pos) tB'):PW X (.BoolOp .Or (a :: b :: rest) pos) (tOr tA tB'):=by
 intro wh pins s σ H Q I h
 refine isTrue_or (thn (ha pins s σ H _ I h) fun c s1 ⟨H1,I1,q1⟩=>?_)
 cases c with
 | true=>exact ⟨H1,I1,q1⟩
 | false=>exact hb wh pins s1 σ H1 Q I1 q1
theorem pt_not (ha:PT X a tA):PT X (.UnaryOp .Not a pos) (tNot tA):=by
 intro pins s σ H Q I h
 exact isTrue_not (ha pins s σ H (fun c H1=>Q (!c) H1) I h)
inductive tAndVI (tb:TE) (σ:St) (Q:VK) (x:V) (H1:Hp):Prop
 | mk (c:_) (h1:x=.bl c) (h2:if c=true then tb σ H1 Q else Q (.bl false) H1):tAndVI tb σ Q x H1
def tAndV (ta tb:TE):TE:=fun σ H Q=>ta σ H fun x H1=>tAndVI tb σ Q x H1
theorem pe_one {op} {t:TE} (h:PE X a t):PE X (.BoolOp op [a] pos) t:=fun pins s σ H Q I hw=>BoolOp_one (h pins s σ H Q I hw)
theorem pe_and (ha:PE X a ta) (hb:PE X (.BoolOp .And (b :: rest) pos) tb):PE X (.BoolOp .And (a :: b :: rest) pos) (tAndV ta tb):=by
 intro pins s σ H Q I h
 refine BoolOp_and (thn (ha pins s σ H _ I h) fun v s1 ⟨x,H1,I1,r1,q1⟩=>?_)
 obtain ⟨c,rfl,q1⟩:=q1
 cases r1
 refine wpAny_truthy_bool ?_
 cases c with
 | true=>exact hb pins s1 σ H1 Q I1 q1
 | false=>exact ⟨.bl false,H1,I1,rfl,q1⟩
end
end L2
namespace L2
open PySem PySem.Spec PyProof.Rows
def SqL (K:PySem.W.Frag) (H:Hp) (a:Addr) (xs:List V):Prop:=
 Rd H a (.lst xs)∨
  ∃ (o:Obj) (its:Array Value) (n:Nat),K.lookup a=some o∧o.cls=.type "list"∧o.dict=none∧o.data=.seq its n∧its.size≤sizeLine∧Vals xs its.toList
def SqT (K:PySem.W.Frag) (H:Hp) (a:Addr) (xs:List V):Prop:=
 Rd H a (.tup xs)∨
  ∃ (o:Obj) (its:Array Value) (n:Nat),K.lookup a=some o∧o.cls=.type "tuple"∧o.data=.seq its n∧its.size≤sizeLine∧Vals xs its.toList
def absV:Value→Option V
 | .none=>some .non
 | .bool b=>some (.bl b)
 | .int i _=>some (.int i)
 | .str x _=>some (.str x)
 | .bytes b _=>some (.byt b)
 | .float b _=>some (.flt b)
 | .ref a=>some (.ref a)
 | .type n=>some (.ty n)
 | _=>none
theorem RelV.abs {x:V} {u:Value} (r:RelV x u):absV u=some x:=by
 cases x with
 | non=>cases r; rfl
 | bl _=>cases r; rfl
 | int _=>obtain ⟨t,rfl⟩:=r; rfl
 | str _=>obtain ⟨t,rfl⟩:=r; rfl
 | byt _=>obtain ⟨t,rfl⟩:=r; rfl
 | flt _=>obtain ⟨t,rfl⟩:=r; rfl
 | ref _=>cases r; rfl
 | ty _=>cases r; rfl
theorem RelV.inj {x y:V} {u:Value} (r:RelV x u) (q:RelV y u):x=y:=Option.some.inj (r.abs.symm.trans q.abs)
theorem Vals.inj:∀ {xs ys:List V} {us:List Value},Vals xs us→Vals ys us→xs=ys
 | _,_,_,.nil,.nil=>rfl
 | _,_,_,.cons r t,.cons r' t'=>by rw [r.inj r',Vals.inj t t']
section
variable {X:Cx} {pins:List (Addr × Obj)} {σ:St} {H:Hp} {s:Shared} {a:Addr} {xs ys:List V}
theorem SqL.of {K:PySem.W.Frag} (h:H a=some (.lst xs)):SqL K H a xs:=.inl (.inl h)
theorem SqT.of {K:PySem.W.Frag} (h:H a=some (.tup xs)):SqT K H a xs:=.inl (.inl h)
theorem Inv.list (I:Inv X pins σ H s) (h:SqL X.K H a xs):∃ its:List Value,Vals xs its∧PlainL s.heap a its.toArray∧xs.length≤sizeLine:=by
 rcases h with h | ⟨o,its,n,hk,hc,hd,hs,hz,r⟩
 ·obtain ⟨z,its,n,r,e⟩:=h.ok I.hok
  exact ⟨its,r,⟨_,n,e,rfl,rfl,rfl⟩,z⟩
 ·refine ⟨its.toList,r,⟨o,n,I.kIn a o hk,hc,hd,by simpa using hs⟩,?_⟩
  have e:=r.length
  simp only [Array.length_toList] at e
  omega
theorem Inv.tuple (I:Inv X pins σ H s) (h:SqT X.K H a xs):∃ its:List Value,Vals xs its∧IsTup s.heap a its.toArray∧xs.length≤sizeLine:=by
 rcases h with h | ⟨o,its,n,hk,hc,hs,hz,r⟩
 ·obtain ⟨z,its,r,p⟩:=h.ok I.hok
  exact ⟨its,r,p,z⟩
 ·refine ⟨its.toList,r,⟨o,I.kIn a o hk,hc,n,by simpa using hs⟩,?_⟩
  have e:=r.length
  simp only [Array.length_toList] at e
  omega
theorem Inv.list_inj (I:Inv X pins σ H s) (h:SqL X.K H a xs) (h':SqL X.K H a ys):xs=ys:=by
 obtain ⟨its,r,⟨o,n,e,_,_,d⟩,_⟩:=I.list h
 obtain ⟨its',r',⟨o',n',e',_,_,d'⟩,_⟩:=I.list h'
 rw [e] at e'; cases e'
 rw [d] at d'
 injection d' with d1 _
 have:its=its':=by simpa using congrArg Array.toList d1
 subst this
 exact r.inj r'
theorem Inv.tuple_inj (I:Inv X pins σ H s) (h:SqT X.K H a xs) (h':SqT X.K H a ys):xs=ys:=by
 obtain ⟨its,r,⟨o,e,_,n,d⟩,_⟩:=I.tuple h
 obtain ⟨its',r',⟨o',e',_,n',d'⟩,_⟩:=I.tuple h'
 rw [e] at e'; cases e'
 rw [d] at d'
 injection d' with d1 _
 have:its=its':=by simpa using congrArg Array.toList d1
 subst this
 exact r.inj r'
end
abbrev Cx.wish (X:Cx) (E:Value→Shared→Prop):Cx:={ X with xe:=E }
abbrev Cx.nox (X:Cx):Cx:=X.wish fun _ _=>False
theorem Cx.Ok.wish {X:Cx} (ok:X.Ok) (E:Value→Shared→Prop):(X.wish E).Ok:=
 ⟨ok.mod,ok.kind,ok.glob,ok.blt,ok.above,ok.inj,ok.has,ok.cab,ok.hd,ok.frames,ok.stk,ok.exf,ok.bs,ok.bsz,ok.noex,ok.exfs,ok.funs,ok.frf⟩
theorem Cx.Ok.unwish {X:Cx} {E:Value→Shared→Prop} (ok:(X.wish E).Ok):X.Ok:=
 ⟨ok.mod,ok.kind,ok.glob,ok.blt,ok.above,ok.inj,ok.has,ok.cab,ok.hd,ok.frames,ok.stk,ok.exf,ok.bs,ok.bsz,ok.noex,ok.exfs,ok.funs,ok.frf⟩
section
variable {X:Cx} {pins:List (Addr × Obj)} {σ:St} {H:Hp} {s:Shared} {E:Value→Shared→Prop}
theorem Inv.wish (I:Inv X pins σ H s) (E:Value→Shared→Prop):Inv (X.wish E) pins σ H s:=⟨I.ok.wish E,I.os,I.bare,I.base,I.loc,I.cell,I.free,I.freeC,I.pin,I.hok,I.len⟩
theorem Inv.unwish (I:Inv (X.wish E) pins σ H s):Inv X pins σ H s:=⟨I.ok.unwish,I.os,I.bare,I.base,I.loc,I.cell,I.free,I.freeC,I.pin,I.hok,I.len⟩
theorem SP.unwish {D:Ends} {f:Flow} {s':Shared} (h:SP (X.wish E) pins D f s'):SP X pins D f s':=by
 cases f with
 | next=>obtain ⟨σ',H',I,q⟩:=h; exact ⟨σ',H',I.unwish,q⟩
 | brk=>obtain ⟨σ',H',I,q⟩:=h; exact ⟨σ',H',I.unwish,q⟩
 | cont=>obtain ⟨σ',H',I,q⟩:=h; exact ⟨σ',H',I.unwish,q⟩
 | ret u=>obtain ⟨v,σ',H',I,r,q⟩:=h; exact ⟨v,σ',H',I.unwish,r,q⟩
theorem PSs.nox {st:List Stmt} {t:TS} (h:PSs X.nox st t):PSs X st t:=fun pins s σ H D I hw=>
 wpAny_mono (h pins s σ H D (I.wish _) hw) (fun _ _ q=>q.unwish) fun _ _ z=>False.elim z
end
section
variable {X:Cx} {st:Stmt} {rest:List Stmt} {t u:TS} {e:Expr} {te:TE} {pos:Pos}
def tNext:TS:=fun D σ H=>D.nx σ H
def tSeq (t u:TS):TS:=fun D σ H=>t { D with nx:=u D } σ H
theorem pss_nil:PSs X [] tNext:=fun _ _ σ H _ I h=>wpAny_execs_nil ⟨σ,H,I,h⟩
theorem pss_cons (h1:PS X st t) (h2:PSs X rest u):PSs X (st :: rest) (tSeq t u):=by
 intro pins s σ H D I h
 refine wpAny_execs_cons (thn (h1 pins s σ H { D with nx:=u D } I h) fun f s1 q=>?_)
 cases f with
 | next=>
  obtain ⟨σ',H',I',q⟩:=q
  exact h2 pins s1 σ' H' D I' q
 | ret v=>exact q
 | brk=>exact q
 | cont=>exact q
theorem pss_one (h1:PS X st t):PSs X [st] t:=by
 intro pins s σ H D I h
 refine wpAny_execs_cons (thn (h1 pins s σ H D I h) fun f s1 q=>?_)
 cases f with
 | next=>exact wpAny_execs_nil q
 | ret v=>exact q
 | brk=>exact q
 | cont=>exact q
theorem Inv.quiet {pins:List (Addr × Obj)} {σ:St} {H:Hp} {s:Shared} (I:Inv X pins σ H s):interactive X.env=false:=by simp [interactive,I.ok.kind]
def tDrop (te:TE):TS:=fun D σ H=>te σ H fun _ H1=>D.nx σ H1
theorem ps_expr (he:PE X e te) (hs:swapsWith e none pos.line X.env=pure false:=by rfl):PS X (.Expr e pos) (tDrop te):=by
 intro pins s σ H D I h
 exact wpAny_Expr_any (thn (he pins s σ H _ I h) fun v s1 ⟨x,H1,I1,r1,q1⟩=>⟨σ,H1,I1,q1⟩) I.quiet hs
def tRet (te:TE):TS:=fun D σ H=>te σ H D.rt
theorem ps_ret (he:PE X e te):PS X (.Return (some e) pos) (tRet te):=by
 intro pins s σ H D I h
 exact wpAny_Return_some (thn (he pins s σ H _ I h) fun v s1 ⟨x,H1,I1,r1,q1⟩=>⟨x,σ,H1,I1,r1,q1⟩)
def tIfS (c:TT) (t u:TS):TS:=fun D σ H=>c σ H fun b H1=>if b=true then t D σ H1 else u D σ H1
theorem ps_if {c:Expr} {a b:List Stmt} {tc:TT} (hc:PT X c tc) (ha:PSs X a t) (hb:PSs X b u):PS X (.If c a b pos) (tIfS tc t u):=by
 intro pins s σ H D I h
 refine wpAny_If (thn (hc pins s σ H _ I h) fun d s1 ⟨H1,I1,q1⟩=>?_)
 cases d with
 | true=>exact ha pins s1 σ H1 D I1 q1
 | false=>exact hb pins s1 σ H1 D I1 q1
end
abbrev TG:=V→St→Hp→(St→Hp→Prop)→Prop
abbrev TGs:=List V→St→Hp→(St→Hp→Prop)→Prop
def PG (X:Cx) (target:Expr) (t:TG):Prop:=
 ∀ (pins:List (Addr × Obj)) (s:Shared) (σ:St) (H:Hp) (v:V) (u:Value) (Q:St→Hp→Prop),Inv X pins σ H s→RelV v u→t v σ H Q→
  wpAny (model X.prog X.w) X.A (assign target X.env u) (fun _ s'=>∃ σ' H',Inv X pins σ' H' s'∧Q σ' H') X.xe s
def PGs (X:Cx) (ts:List Expr) (t:TGs):Prop:=
 ∀ (pins:List (Addr × Obj)) (s:Shared) (σ:St) (H:Hp) (vs:List V) (us:List Value) (Q:St→Hp→Prop),Inv X pins σ H s→Vals vs us→t vs σ H Q→
  wpAny (model X.prog X.w) X.A (assignInOrder ((assignEach ts X.env).map (·.2)) us) (fun _ s'=>∃ σ' H',Inv X pins σ' H' s'∧Q σ' H') X.xe s
abbrev TSet:=V→V→V→Hp→(Hp→Prop)→Prop
def PSet (X:Cx) (t:TSet):Prop:=
 ∀ (pins:List (Addr × Obj)) (s:Shared) (σ:St) (H:Hp) (o i v:V) (ov iv u:Value) (Q:Hp→Prop),Inv X pins σ H s→RelV o ov→RelV i iv→RelV v u→t o i v H Q→
  wpAny (model X.prog X.w) X.A (setItem ov iv u) (fun _ s'=>∃ H',Inv X pins σ H' s'∧Q H') X.xe s
section
variable {X:Cx} {pos:Pos}
def gName (i:Nat):TG:=fun v σ H Q=>Q (σ.set i (some v)) H
theorem pg_name {i:Nat} {x:Str} (hN:X.N.Nodup) (hi:X.N[i]? = some x) (hx:Loc X.env.scope x) (hf:X.fn x=true∨X.env.scope.names.lookup x=some .local:=by first | exact .inl rfl | exact .inr rfl | assumption):PG X (.Name x pos) (gName i):=by
 intro pins s σ H v u Q I r h
 exact wpAny_assign_Name (store_ok I hN hi hx r (fun s' I'=>⟨_,H,I',h⟩) hf)
def gNil:TGs:=fun vs σ H Q=>vs=[]∧Q σ H
inductive gConsI (t:TG) (u:TGs) (vs:List V) (σ:St) (H:Hp) (Q:St→Hp→Prop):Prop
 | mk (v r:_) (h1:vs=v :: r) (h2:t v σ H fun σ' H'=>u r σ' H' Q):gConsI t u vs σ H Q
def gCons (t:TG) (u:TGs):TGs:=fun vs σ H Q=>gConsI t u vs σ H Q
theorem pgs_nil:PGs X [] gNil:=by
 intro pins s σ H vs us Q I r h
 obtain ⟨e,h⟩:=h
 subst e
 cases r
 exact assignInOrder_nil ⟨σ,H,I,h⟩
theorem pgs_cons {e:Expr} {es:List Expr} {t:TG} {u:TGs} (h1:PG X e t) (h2:PGs X es u)
  (hs:(assignEach (e :: es) X.env).map (·.2)=assign e X.env :: (assignEach es X.env).map (·.2):=by rfl):PGs X (e :: es) (gCons t u):=by
 intro pins s σ H vs us Q I r h
 obtain ⟨v,vr,e1,h⟩:=h
 subst e1
 cases r with
 | cons r rr=>
  rw [hs]
  refine assignInOrder_cons (thn (h1 pins s σ H _ _ _ I r h) fun _ s1 ⟨σ1,H1,I1,q1⟩=>?_)
  exact h2 pins s1 σ1 H1 _ _ Q I1 rr q1
inductive gTupI (K:PySem.W.Frag) (n:Nat) (t:TGs) (v:V) (σ:St) (H:Hp) (Q:St→Hp→Prop):Prop
 | mk (a xs:_) (h1:v=.ref a) (h2:SqT K H a xs) (h3:xs.length=n) (h4:t xs σ H Q):gTupI K n t v σ H Q
def gTup (K:PySem.W.Frag) (n:Nat) (t:TGs):TG:=fun v σ H Q=>gTupI K n t v σ H Q
theorem pg_tup {es:List Expr} {k:Nat} {t:TGs} {n:Nat} (hc:X.calm=true) (h:PGs X es t)
  (hn:(assignEach es X.env).length=n:=by rfl) (hst:(assignEach es X.env).findIdx? (·.1)=none:=by rfl):PG X (.Tuple es k pos) (gTup X.K n t):=by
 intro pins s σ H v u Q I r hw
 obtain ⟨a,xs,e1,hq,hl,hw⟩:=hw
 subst e1
 cases r
 obtain ⟨its,rv,ht,hz⟩:=I.tuple hq
 refine assign_Tuple_tuple (I.ok.hd hc) ht (by simp [hn,← hl,rv.length]) hst fun h' hx=>?_
 have I1:Inv X pins σ H { s with heap:=h' }:=I.kept (t':=s.toks) fun b o e=>hx b o (Nat.ne_of_lt (Heap.lt_size e)) e
 exact h pins _ σ H xs _ Q I1 (by simpa using rv) hw
def gSub (to ti:TE) (t:TSet):TG:=fun v σ H Q=>to σ H fun o H1=>ti σ H1 fun i H2=>t o i v H2 fun H3=>Q σ H3
theorem pg_sub {o i:Expr} {to ti:TE} {t:TSet} (ho:PE X o to) (hi:PE X i ti) (hs:PSet X t)
  (ha:∀ v,assign (.Subscript o i pos) X.env v=(do
   let ov ← holding [v] (eval o X.env)
   let iv ← holding [v,ov] (eval i X.env)
   standAt pos
   holding [v,ov,iv] (setItem ov iv v)
   release [v,ov,iv] []):=by intro _; rfl):PG X (.Subscript o i pos) (gSub to ti t):=by
 intro pins s σ H v u Q I r h
 rw [ha]
 refine wpAny_bind (wpAny_holding (thn (ho pins s σ H _ I h) fun ov s1 ⟨x,H1,I1,r1,q1⟩=>?_))
 refine wpAny_bind (wpAny_holding (thn (hi pins s1 σ H1 _ I1 q1) fun iv s2 ⟨y,H2,I2,r2,q2⟩=>?_))
 refine wpAny_bind (wpAny_standAt (wpAny_bind (wpAny_holding (thn (hs pins s2 σ H2 x y v ov iv u _ I2 r1 r2 r q2) fun _ s3 ⟨H3,I3,q3⟩=>?_))))
 exact wpAny_release ⟨σ,H3,I3,q3⟩
def tAsg (te:TE) (g:TG):TS:=fun D σ H=>te σ H fun x H1=>g x σ H1 D.nx
theorem ps_asg {tg e:Expr} {te:TE} {g:TG} (he:PE X e te) (hg:PG X tg g) (hs:swapsWithSole [tg] e pos.line X.env=pure false:=by rfl) (hw:swappedStores [tg] e X.env=pure none:=by rfl)
  (h1:(assignEach [tg] X.env).map (·.2)=[assign tg X.env]:=by rfl):PS X (.Assign [tg] e pos) (tAsg te g):=by
 intro pins s σ H D I h
 refine wpAny_Assign_stores (thn (he pins s σ H _ I h) fun v s1 ⟨x,H1,I1,r1,q1⟩=>?_) hs hw
 rw [h1]
 exact thn (hg pins s1 σ H1 x v _ I1 r1 q1) fun _ s2 q=>q
theorem ps_set {i:Nat} {x:Str} {e:Expr} {te:TE} {pos':Pos} (hN:X.N.Nodup) (hi:X.N[i]? = some x) (hx:Loc X.env.scope x) (he:PE X e te) (hs:swapsWith e (some (.Name x pos')) pos.line X.env=pure false:=by rfl) (hf:X.fn x=true∨X.env.scope.names.lookup x=some .local:=by first | exact .inl rfl | exact .inr rfl | assumption) :
  PS X (.Assign [.Name x pos'] e pos) (tAsg te (gName i)):=by
 intro pins s σ H D I h
 refine wpAny_Assign_Name (thn (he pins s σ H _ I h) fun v s1 ⟨y,H1,I1,r1,q1⟩=>?_) hs
 exact store_ok I1 hN hi hx r1 (fun s2 I2=>⟨_,H1,I2,q1⟩) hf
end
section
variable {X:Cx} {pos:Pos}
inductive tWhileI (c:TT) (tb:TS) (D:Ends) (σ:St) (H:Hp):Prop
 | mk (W:Nat→St→Hp→Prop) (h1:(∃ m,W m σ H)) (h2:∀ m σ H,W m σ H→c σ H fun b H1=>if b=true then ∃ N:St→Hp→Prop,(∀ σ' H',N σ' H'→∃ m',m' < m∧W m' σ' H')∧tb { D with nx:=N,ct:=N,bk:=D.nx } σ H1 else D.nx σ H1):tWhileI c tb D σ H
def tWhile (c:TT) (tb:TS):TS:=fun D σ H=>tWhileI c tb D σ H
theorem ps_while {c:Expr} {body:List Stmt} {tc:TT} {tb:TS} (hp:PassesOwn (model X.prog X.w) X.A X.env X.xe) (hc:PT X c tc) (hb:PSs X body tb):PS X (.While c body [] pos) (tWhile tc tb):=by
 intro pins s σ H D I h
 obtain ⟨W,⟨m0,w0⟩,turn⟩:=h
 refine wpAny_While (codeAny_whileLoop (fun n s'=>∃ σ' H',Inv X pins σ' H' s'∧W n σ' H') ?_ m0 ⟨σ,H,I,w0⟩)
 rintro n s1 ⟨σ1,H1,I1,w1⟩
 refine wpAny_passesOwn hp (thn (hc pins s1 σ1 H1 _ I1 (turn n σ1 H1 w1)) fun b s2 ⟨H2,I2,q2⟩=>?_)
 cases b with
 | true=>
  obtain ⟨N,hN,q2⟩:=q2
  rw [if_pos rfl]
  refine wpAny_passesOwn hp (thn (hb pins s2 σ1 H2 _ I2 q2) fun f s3 q3=>?_)
  cases f with
  | next=>
   obtain ⟨σ3,H3,I3,n3⟩:=q3
   obtain ⟨m',hm,w3⟩:=hN σ3 H3 n3
   exact ⟨m',hm,σ3,H3,I3,w3⟩
  | cont=>
   obtain ⟨σ3,H3,I3,n3⟩:=q3
   obtain ⟨m',hm,w3⟩:=hN σ3 H3 n3
   exact ⟨m',hm,σ3,H3,I3,w3⟩
  | brk=>exact q3
  | ret v=>exact q3
 | false=>
  rw [if_neg Bool.false_ne_true]
  exact wpAny_execs_nil ⟨σ1,H2,I2,q2⟩
end
structure It where
 go:Nat→Hp→Prop
 yld:Nat→Hp→V→Hp→Prop
 stop:Nat→Hp→Prop
def FpOk (X:Cx) (pins:List (Addr × Obj)) (H:Hp) (b:Addr):Prop:=
 H b=none∧b≠X.env.locals∧b∉X.fs∧(b∈X.ex∨X.s₀.heap.objs.size≤b)∧(∀ x c,X.env.cells.lookup x=some c→c≠b)∧∀ p∈X.pn ++ pins,p.1≠b
theorem Inv.fpOk {X:Cx} {pins:List (Addr × Obj)} {σ:St} {H H':Hp} {s:Shared} {b:Addr} (I:Inv X pins σ H s) (hb:s.heap.objs.size≤b) (hn:H' b=none):FpOk X pins H' b:=by
 refine ⟨hn,Nat.ne_of_gt (Nat.lt_of_lt_of_le I.lt hb),I.nofs hb,.inr (Nat.le_trans I.sz hb),fun x c e z=>?_,fun p hp z=>?_⟩
 ·obtain ⟨v,q⟩:=I.cell x c e
  exact absurd (Nat.lt_of_lt_of_le q.lt (by rw [z]; exact hb)) (Nat.lt_irrefl _)
 ·exact absurd (Nat.lt_of_lt_of_le (Heap.lt_size (I.pin p hp).1) (by rw [z]; exact hb)) (Nat.lt_irrefl _)
structure Turn (P:Program) (w:World) (K:PySem.W.Frag) (tg:Expr) (J:It) (fp:List Addr) (it:Addr) (tn:Nat→Heap→Prop):Prop where
 mem:it∈fp
 obj:∀ i h,tn i h→∀ b∈fp,∃ o,h.get? b=some o∧∀ v,o.data≠.cell v
 keep:∀ i h h',tn i h→(∀ b∈fp,∀ o,h.get? b=some o→h'.get? b=some o)→tn i h'
 item:∀ (X:Cx),X.prog=P→X.w=w→X.K=K→X.calm=true→∀ (i:Nat) (pins:List (Addr × Obj)) (s:Shared) (σ:St) (H:Hp) (E:Value→Shared→Prop),Inv X pins σ H s→(∀ b∈fp,FpOk X pins H b)→tn i s.heap→J.go i H→
  wpAny (model P w) X.A (pyNext (.ref it)) (fun r s1=>∃ u,r=some u∧
   wpAny (model P w) X.A (letOwnedTupleGo tg (.ref it) u) (fun _ s2=>∃ x H',Inv X pins σ H' s2∧RelV x u∧J.yld i H x H'∧tn (i+1) s2.heap∧∀ b∈fp,H' b=none) E s1) E s
 done:∀ (X:Cx),X.prog=P→X.w=w→X.K=K→X.calm=true→∀ (i:Nat) (pins:List (Addr × Obj)) (s:Shared) (σ:St) (H:Hp) (E:Value→Shared→Prop),Inv X pins σ H s→(∀ b∈fp,FpOk X pins H b)→tn i s.heap→J.stop i H→
  wpAny (model P w) X.A (pyNext (.ref it)) (fun r s1=>r=none∧Inv X pins σ H s1) E s
 self:∀ (A:Around) (i:Nat) (s:Shared) (Q:Value→Shared→Prop) (E:Value→Shared→Prop),tn i s.heap→Q (.ref it) s→wpAny (model P w) A (pyIter (.ref it)) Q E s
abbrev TI:=St→Hp→(It→Hp→Prop)→Prop
def PIE (X:Cx) (pins:List (Addr × Obj)) (σ:St) (tg:Expr) (R:It→Hp→Prop) (itv:Value) (s2:Shared):Prop:=
 ∃ (it:Addr) (fp:List Addr) (tn:Nat→Heap→Prop) (J:It) (H':Hp),itv=.ref it∧Inv X pins σ H' s2∧Turn X.prog X.w X.K tg J fp it tn∧tn 0 s2.heap∧(∀ b∈fp,FpOk X pins H' b)∧R J H'
def PI (X:Cx) (tg iter:Expr) (wi:TI):Prop:=
 ∀ (pins:List (Addr × Obj)) (s:Shared) (σ:St) (H:Hp) (R:It→Hp→Prop),Inv X pins σ H s→wi σ H R→
  wpAny (model X.prog X.w) X.A (eval iter X.env) (fun v s1=>wpAny (model X.prog X.w) X.A (pyIter v) (PIE X pins σ tg R) X.xe s1) X.xe s
theorem go_of {M:Model} {A:Around} {E:Value→Shared→Prop} {s:Shared} {tg:Expr} {it:Addr} {u:Value} {o:Obj} {n:String} {vs:Array Value} {Q:Unit→Shared→Prop} (ho:s.heap.get? it=some o) (hc:o.cls=.type n) (hd:o.data=.fields vs)
  (hn:["enumerate","zip","dict_itemiterator","dict_reverseitemiterator","odict_iterator","itertools.zip_longest","itertools.pairwise"].contains n=false) (hQ:Q () s):wpAny M A (letOwnedTupleGo tg (.ref it) u) Q E s:=by
 unfold letOwnedTupleGo
 cases tg <;> first
  | exact wpAny_pure hQ
  | (cases u <;> first
    | exact wpAny_pure hQ
    | (refine wpAny_bind (wpAny_load ho ?_)
       rw [hc,hd]
       show wpAny M A (if (["enumerate","zip","dict_itemiterator","dict_reverseitemiterator","odict_iterator","itertools.zip_longest","itertools.pairwise"].contains n && vs[0]? == some (rawInt _))=true then _ else _) Q E s
       rw [if_neg (by intro h; rw [hn,Bool.false_and] at h; cases h)]
       exact wpAny_pure hQ))
def Itt (K:PySem.W.Frag) (a:Addr):It:=
 ⟨fun i H=>∃ xs x,SqT K H a xs∧xs[i]? = some x,fun i H x H'=>H'=H∧∀ xs,SqT K H a xs→xs[i]? = some x,fun i H=>∃ xs,SqT K H a xs∧xs.length≤i⟩
def Itr (lo:Int) (n:Nat):It:=⟨fun i _=>i < n,fun i H x H'=>H'=H∧x=.int (lo+i),fun i _=>n≤i⟩
theorem turn_tuple {P:Program} {w:World} {K:PySem.W.Frag} {tg:Expr} (a it:Addr):Turn P w K tg (Itt K a) [it] it (fun i h=>h.IsTupleIter it a i) where
 mem:=by simp
 obj:=fun i h st b hb=>by
  have e:b=it:=by simpa using hb
  subst e
  obtain ⟨o,e,c,d⟩:=st
  exact ⟨o,e,fun v z=>by rw [d] at z; cases z⟩
 keep:=fun i h h' st k=>st.at fun o e=>k it (by simp) o e
 item:=by
  intro X hP hw hK hc i pins s σ H E I hf st hg
  subst hP hw hK
  obtain ⟨xs,x,hq,hx⟩:=hg
  obtain ⟨its,rv,p,hz⟩:=I.tuple hq
  obtain ⟨u,hu,ru⟩:=rv.get hx
  obtain ⟨f0,f1,f2,f3,f4,f5⟩:=hf it (by simp)
  refine wpAny_pyNext_tuple_item st (show s.heap.IsTuple a its.toArray from p) (x:=u) (by simpa using hu) fun h' st' sb=>?_
  have I1:Inv X pins σ H { s with heap:=h' }:=I.turned (t':=s.toks) (fun b o hb e=>(sb.2 b hb).trans e) f0 f1 f3 f4 f5
  obtain ⟨o,e,c,d⟩:=id st'
  exact ⟨u,rfl,go_of (s:={ s with heap:=h' }) e c d (by decide) ⟨x,H,I1,ru,⟨rfl,fun ys hy=>by rw [I.tuple_inj hy hq]; exact hx⟩,st',fun b hb=>(hf b hb).1⟩⟩
 done:=by
  intro X hP hw hK hc i pins s σ H E I hf st hg
  subst hP hw hK
  obtain ⟨xs,hq,hx⟩:=hg
  obtain ⟨its,rv,p,hz⟩:=I.tuple hq
  obtain ⟨f0,f1,f2,f3,f4,f5⟩:=hf it (by simp)
  have hl:=rv.length
  exact wpAny_pyNext_tuple_end (I.ok.hd hc) st (show s.heap.IsTuple a its.toArray from p) (by simp; omega) fun h' eb=>⟨rfl,I.turned (t':=s.toks) (fun b o hb e=>eb b o hb e) f0 f1 f3 f4 f5⟩
 self:=fun _ _ _ _ _ st h=>wpAny_pyIter_tupleiter st h
theorem turn_range {P:Program} {w:World} {K:PySem.W.Frag} {tg:Expr} (it:Addr) (lo:Int) (n:Nat):Turn P w K tg (Itr lo n) [it] it (fun i h=>IsRangeIter h it (lo+(i:Nat) * 1) ((n:Int) - (i:Nat)) 1) where
 mem:=by simp
 obj:=fun i h st b hb=>by
  have e:b=it:=by simpa using hb
  subst e
  exact ⟨_,st,fun v z=>by
   have z':Data.fields _=Data.cell v:=z
   cases z'⟩
 keep:=fun i h h' st k=>k it (by simp) _ st
 item:=by
  intro X hP hw hK hc i pins s σ H E I hf st hg
  subst hP hw hK
  obtain ⟨f0,f1,f2,f3,f4,f5⟩:=hf it (by simp)
  have W:=Walks.range (prog:=X.prog) (w:=X.w) (I.ok.hd hc) it lo 1 n
  refine W.item i s _ _ hg st fun v h' tk hv st' kk=>?_
  obtain ⟨t,rfl⟩:=hv
  have I1:Inv X pins σ H { s with heap:=h',toks:=tk }:=I.turned (fun b o hb e=>kk b o (by simpa using hb) e) f0 f1 f3 f4 f5
  refine ⟨_,rfl,go_of (s:={ s with heap:=h',toks:=tk }) (n:="range_iterator") st' rfl rfl (by decide) ⟨.int (lo+i),H,I1,⟨t,?_⟩,⟨rfl,rfl⟩,st',fun b hb=>(hf b hb).1⟩⟩
  rw [Int.mul_one]
 done:=by
  intro X hP hw hK hc i pins s σ H E I hf st hg
  subst hP hw hK
  obtain ⟨f0,f1,f2,f3,f4,f5⟩:=hf it (by simp)
  exact wpAny_pyNext_range_end (I.ok.hd hc) st (by have:n≤i:=hg; omega) fun h' eb=>⟨rfl,I.turned (t':=s.toks) (fun b o hb e=>eb b o hb e) f0 f1 f3 f4 f5⟩
 self:=fun _ _ _ _ _ st h=>wpAny_pyIter_rangeiter st h
end L2
namespace L2
open PySem PySem.Spec PyProof.Rows
section
variable {X:Cx} {tg:Expr}
inductive iTupI (K:PySem.W.Frag) (R:It→Hp→Prop) (x:V) (H1:Hp):Prop
 | mk (a:_) (h1:x=.ref a) (h2:(∃ xs,SqT K H1 a xs)) (h3:R (Itt K a) H1):iTupI K R x H1
def iTup (K:PySem.W.Frag) (tl:TE):TI:=fun σ H R=>tl σ H fun x H1=>iTupI K R x H1
theorem pi_tup {l:Expr} {tl:TE} (hl:PE X l tl):PI X tg l (iTup X.K tl):=by
 intro pins s σ H R I h
 refine thn (hl pins s σ H _ I h) fun v s1 ⟨x,H1,I1,r1,q1⟩=>?_
 obtain ⟨a,e,⟨xs,hq⟩,q⟩:=q1
 subst e
 cases r1
 obtain ⟨its,rv,p,hz⟩:=I1.tuple hq
 refine wpAny_pyIter_tuple (show s1.heap.IsTuple a its.toArray from p) ?_
 refine ⟨s1.heap.objs.size,[s1.heap.objs.size],_,_,H1,rfl,I1.kept (t':=s1.toks) fun b o e=>Heap.get?_push_of_some _ e,turn_tuple a _,⟨_,Heap.get?_push_size _ rfl,rfl,rfl⟩,fun b hb=>?_,q⟩
 have e:b=s1.heap.objs.size:=by simpa using hb
 subst e
 exact I1.fpOk (Nat.le_refl _) (I1.hok.fresh (Nat.le_refl _))
theorem range_it {pins:List (Addr × Obj)} {σ:St} {H:Hp} {s:Shared} {R:It→Hp→Prop} {E:Value→Shared→Prop} {lo hi:Int} {t u v:Tok} {tk:Nat} (I:Inv X pins σ H s) (h1 : -(2 ^ 62)≤lo) (h2:lo < 2 ^ 62) (h3 : -(2 ^ 62)≤hi) (h4:hi < 2 ^ 62)
  (q:R (Itr lo (hi - lo).toNat) H):wpAny (model X.prog X.w) X.A (pyIter (.ref s.heap.objs.size)) (PIE X pins σ tg R) E { s with heap:=s.heap.push { cls:=.type "range",data:=.fields #[.int lo t,.int hi u,.int 1 v] },toks:=tk }:=by
 refine wpAny_pyIter_range (IsRange.new ..) (small_one h1 h2 h3 h4) ?_
 have I1:Inv X pins σ H { s with heap:=s.heap.push { cls:=.type "range",data:=.fields #[.int lo t,.int hi u,.int 1 v] },toks:=tk }:=I.kept fun b o e=>Heap.get?_push_of_some _ e
 refine ⟨(s.heap.push { cls:=.type "range",data:=.fields #[.int lo t,.int hi u,.int 1 v] }).objs.size,[(s.heap.push { cls:=.type "range",data:=.fields #[.int lo t,.int hi u,.int 1 v] }).objs.size],_,_,H,rfl,
  I1.kept (t':=tk) fun b o e=>Heap.get?_push_of_some _ e,turn_range _ lo (hi - lo).toNat,?_,fun b hb=>?_,q⟩
 ·have e1:lo+((0:Nat):Int) * 1=lo:=by simp
  have e2:(((hi - lo).toNat:Nat):Int) - ((0:Nat):Int)=Builtin.Range.rangeSize lo hi 1:=by rw [rangeSize_one]; split <;> omega
  show IsRangeIter _ _ (lo+((0:Nat):Int) * 1) ((((hi - lo).toNat:Nat):Int) - ((0:Nat):Int)) 1
  rw [e1,e2]
  exact Heap.get?_push_size _ rfl
 ·have e:b=(s.heap.push { cls:=.type "range",data:=.fields #[.int lo t,.int hi u,.int 1 v] }).objs.size:=by simpa using hb
  subst e
  exact I1.fpOk (Nat.le_refl _) (I1.hok.fresh (Nat.le_refl _))
inductive iRng1I (R:It→Hp→Prop) (vs:List V) (H1:Hp):Prop
 | mk (j:Int) (h1:vs=[.int j]) (h2 : -(2 ^ 62)≤j) (h3:j < 2 ^ 62) (h4:R (Itr 0 j.toNat) H1):iRng1I R vs H1
def iRng1 (ta:TA):TI:=fun σ H R=>ta σ H fun vs H1=>iRng1I R vs H1
theorem pi_range1 {a:Expr} {ta:TA} {p pos:Pos} (hg:Gl X "range") (hm:X.mg "range" = none) (ha:PA X [a] ta) (hs:starEach [a] X.env=[(false,eval a X.env)]:=by rfl):PI X tg (.Call (.Name "range" p) [a] [] pos) (iRng1 ta):=by
 intro pins s σ H R I h
 refine Call_ (ld_blt I hg hm boot_range (PyProof.Rows.callWith_type1 (thn (ha pos pins s σ H _ I h) fun us s1 ⟨vs,H1,I1,r1,q1⟩=>?_) hs rfl))
 obtain ⟨j,e,q1,q2,q⟩:=q1
 subst e
 cases r1 with
 | cons r rr=>
  cases rr
  obtain ⟨t,rfl⟩:=r
  exact call_range_1 (range_it I1 (by omega) (by omega) q1 q2 (by simpa using q))
def tFor (wi:TI) (g:TG) (tb:TS):TS:=fun D σ H=>wi σ H fun J H1=>∃ W:Nat→Nat→St→Hp→Prop,(∃ m,W 0 m σ H1)∧∀ i m σ H,W i m σ H→
 (J.stop i H∧D.nx σ H)∨(J.go i H∧∃ N:St→Hp→Prop,(∀ σ' H',N σ' H'→∃ m',m' < m∧W (i+1) m' σ' H')∧∀ x H',J.yld i H x H'→g x σ H' fun σ2 H2=>tb { D with nx:=N,ct:=N,bk:=D.nx } σ2 H2)
def pinsAt (fp:List Addr) (h:Heap):List (Addr × Obj):=fp.filterMap fun b=>(h.get? b).map fun o=>(b,o)
theorem mem_pinsAt {fp:List Addr} {h:Heap} {b:Addr} {o:Obj} (hb:b∈fp) (e:h.get? b=some o):(b,o)∈pinsAt fp h:=List.mem_filterMap.mpr ⟨b,hb,by rw [e]; rfl⟩
theorem of_pinsAt {fp:List Addr} {h:Heap} {p:Addr × Obj} (hp:p∈pinsAt fp h):p.1∈fp∧h.get? p.1=some p.2:=by
 obtain ⟨b,hb,e⟩:=List.mem_filterMap.mp hp
 cases q:h.get? b with
 | none=>rw [q] at e; cases e
 | some o=>
  rw [q] at e
  have e':(b,o)=p:=Option.some.inj e
  subst e'
  exact ⟨hb,q⟩
theorem Inv.pinned {pins:List (Addr × Obj)} {σ:St} {H:Hp} {s:Shared} {fp:List Addr} (I:Inv X pins σ H s) (hf:∀ b∈fp,FpOk X pins H b) (ho:∀ b∈fp,∃ o,s.heap.get? b=some o∧∀ v,o.data≠.cell v):Inv X (pins ++ pinsAt fp s.heap) σ H s:=
 I.pins_of fun p hp=>(List.mem_append.mp hp).elim (fun z=>I.pin p (List.mem_append_right _ z)) fun z=>by
  obtain ⟨hb,e⟩:=of_pinsAt z
  obtain ⟨f0,f1,f2,_⟩:=hf p.1 hb
  obtain ⟨o,e',d⟩:=ho p.1 hb
  rw [e] at e'; cases e'
  exact ⟨e,f0,f1,f2,d⟩
theorem Inv.unpinned {pins pl:List (Addr × Obj)} {σ:St} {H:Hp} {s:Shared} (I:Inv X (pins ++ pl) σ H s):Inv X pins σ H s:=I.pins_of fun p hp=>I.pin p (List.mem_append_right _ (List.mem_append_left _ hp))
theorem ps_for {iter:Expr} {body:List Stmt} {wi:TI} {g:TG} {tb:TS} {pos:Pos} (hp:PassesOwn (model X.prog X.w) X.A X.env X.xe) (hc:X.calm=true) (hi:PI X tg iter wi) (hg:PG X tg g) (hb:PSs X body tb)
  (hs:∀ x,foldedSetIterable iter X.env x=pure x:=by intro _; rfl):PS X (.For tg iter body [] pos) (tFor wi g tb):=by
 intro pins s σ H D I h
 refine wpAny_For (thn (hi pins s σ H _ I h) fun v s1 h1=>thn h1 fun itv s2 h2=>?_) hs
 obtain ⟨it,fp,tn,J,H2,e,I2,T,st2,f2,W,⟨m0,w0⟩,turn⟩:=h2
 subst e
 have stat:∀ {H':Hp},(∀ b∈fp,H' b=none)→∀ b∈fp,FpOk X pins H' b:=fun hn b hb=>⟨hn b hb,(f2 b hb).2⟩
 refine codeAny_forLoop_any (fun n s'=>∃ i σ' H',Inv X pins σ' H' s'∧tn i s'.heap∧(∀ b∈fp,H' b=none)∧W i n σ' H') ?_ m0 ⟨0,σ,H2,I2,st2,fun b hb=>(f2 b hb).1,w0⟩
 rintro n s3 ⟨i,σ3,H3,I3,st3,fr3,w3⟩
 rcases turn i n σ3 H3 w3 with ⟨stop,qn⟩ | ⟨go,N,hN,step⟩
 ·refine wpAny_passesOwn hp (thn (T.done X rfl rfl rfl hc i pins s3 σ3 H3 X.xe I3 (stat fr3) st3 stop) fun r s4 ⟨hr,I4⟩=>?_)
  subst hr
  exact wpAny_execs_nil ⟨σ3,H3,I4,qn⟩
 ·refine wpAny_passesOwn hp (thn (T.item X rfl rfl rfl hc i pins s3 σ3 H3 X.xe I3 (stat fr3) st3 go) fun r s4 ⟨u,hr,h4⟩=>?_)
  subst hr
  refine wpAny_passesOwn hp (thn h4 fun _ s5 ⟨x,H5,I5,r5,y5,st5,fr5⟩=>?_)
  have I5':=I5.pinned (stat fr5) (T.obj _ _ st5)
  refine wpAny_passesOwn hp (thn (hg _ s5 σ3 H5 x u _ I5' r5 (step x H5 y5)) fun _ s6 ⟨σ6,H6,I6,q6⟩=>?_)
  refine wpAny_passesOwn hp (thn (hb _ s6 σ6 H6 _ I6 q6) fun f s7 q7=>?_)
  have again:∀ {σ7:St} {H7:Hp},Inv X (pins ++ pinsAt fp s5.heap) σ7 H7 s7→N σ7 H7→∃ m,m < n∧∃ i σ' H',Inv X pins σ' H' s7∧tn i s7.heap∧(∀ b∈fp,H' b=none)∧W i m σ' H':=fun {σ7 H7} I7 n7=>by
   obtain ⟨m',hm,w7⟩:=hN σ7 H7 n7
   refine ⟨m',hm,i+1,σ7,H7,I7.unpinned,T.keep _ _ _ st5 fun b hb o e=>(I7.pin (b,o) (List.mem_append_right _ (List.mem_append_right _ (mem_pinsAt hb e)))).1,fun b hb=>?_,w7⟩
   obtain ⟨o,e,d⟩:=T.obj _ _ st5 b hb
   exact (I7.pin (b,o) (List.mem_append_right _ (List.mem_append_right _ (mem_pinsAt hb e)))).2.1
  cases f with
  | next=>obtain ⟨σ7,H7,I7,n7⟩:=q7; exact again I7 n7
  | cont=>obtain ⟨σ7,H7,I7,n7⟩:=q7; exact again I7 n7
  | brk=>obtain ⟨σ7,H7,I7,q7⟩:=q7; exact ⟨σ7,H7,I7.unpinned,q7⟩
  | ret v=>obtain ⟨x7,σ7,H7,I7,r7,q7⟩:=q7; exact ⟨x7,σ7,H7,I7.unpinned,r7,q7⟩
end
theorem for_tup {K:PySem.W.Frag} {a:Addr} {xs:List V} {g:TG} {tb:TS} {D:Ends} {σ:St} {H:Hp} (Pv:Nat→St→Hp→Prop) (h0:Pv 0 σ H) (hl:∀ i σ H,i≤xs.length→Pv i σ H→SqT K H a xs)
  (hs:∀ i x σ H,xs[i]? = some x→Pv i σ H→g x σ H fun σ2 H2=>tb { D with nx:=Pv (i+1),ct:=Pv (i+1),bk:=D.nx } σ2 H2) (hd:∀ σ H,Pv xs.length σ H→D.nx σ H) :
  ∃ W:Nat→Nat→St→Hp→Prop,(∃ m,W 0 m σ H)∧∀ i m σ H,W i m σ H→
   ((Itt K a).stop i H∧D.nx σ H)∨((Itt K a).go i H∧∃ N:St→Hp→Prop,(∀ σ' H',N σ' H'→∃ m',m' < m∧W (i+1) m' σ' H')∧∀ x H',(Itt K a).yld i H x H'→g x σ H' fun σ2 H2=>tb { D with nx:=N,ct:=N,bk:=D.nx } σ2 H2):=by
 refine ⟨fun i m σ H=>m=xs.length - i∧i≤xs.length∧Pv i σ H,⟨xs.length,by simp,Nat.zero_le _,h0⟩,?_⟩
 rintro i m σ H ⟨rfl,hi,p⟩
 have q:=hl i σ H hi p
 by_cases hlt:i < xs.length
 ·refine .inr ⟨⟨xs,xs[i],q,by simp [hlt]⟩,Pv (i+1),fun σ' H' p'=>⟨xs.length - (i+1),by omega,rfl,hlt,p'⟩,fun x H' y=>?_⟩
  obtain ⟨e,y⟩:=y
  subst e
  exact hs i x σ _ (y xs q) p
 ·have e:i=xs.length:=by omega
  subst e
  exact .inl ⟨⟨xs,q,Nat.le_refl _⟩,hd σ H p⟩
theorem for_range {lo:Int} {n:Nat} {g:TG} {tb:TS} {D:Ends} {σ:St} {H:Hp} (Pv:Nat→St→Hp→Prop) (h0:Pv 0 σ H)
  (hs:∀ i σ H,i < n→Pv i σ H→g (.int (lo+i)) σ H fun σ2 H2=>tb { D with nx:=Pv (i+1),ct:=Pv (i+1),bk:=D.nx } σ2 H2) (hd:∀ σ H,Pv n σ H→D.nx σ H) :
  ∃ W:Nat→Nat→St→Hp→Prop,(∃ m,W 0 m σ H)∧∀ i m σ H,W i m σ H→
   ((Itr lo n).stop i H∧D.nx σ H)∨((Itr lo n).go i H∧∃ N:St→Hp→Prop,(∀ σ' H',N σ' H'→∃ m',m' < m∧W (i+1) m' σ' H')∧∀ x H',(Itr lo n).yld i H x H'→g x σ H' fun σ2 H2=>tb { D with nx:=N,ct:=N,bk:=D.nx } σ2 H2):=by
 refine ⟨fun i m σ H=>m=n - i∧i≤n∧Pv i σ H,⟨n,by simp,Nat.zero_le _,h0⟩,?_⟩
 rintro i m σ H ⟨rfl,hi,p⟩
 by_cases hlt:i < n
 ·refine .inr ⟨hlt,Pv (i+1),fun σ' H' p'=>⟨n - (i+1),by omega,rfl,hlt,p'⟩,fun x H' y=>?_⟩
  obtain ⟨e,y⟩:=y
  subst e y
  exact hs i σ _ hlt p
 ·have e:i=n:=by omega
  subst e
  exact .inl ⟨Nat.le_refl _,hd σ H p⟩
end L2
namespace L2
open PySem PySem.Spec PyProof.Rows
abbrev R2:=V→V→Hp→VK→Prop
def OpR (X:Cx) (f:Value→Value→Sem Value) (r:R2):Prop:=
 ∀ (pins:List (Addr × Obj)) (s:Shared) (σ:St) (H:Hp) (x y:V) (v u:Value) (Q:VK),Inv X pins σ H s→RelV x v→RelV y u→r x y H Q→
  wpAny (model X.prog X.w) X.A (f v u) (EP X pins σ Q) X.xe s
def CallR (X:Cx) (f:Value) (r:List V→Hp→VK→Prop):Prop:=
 ∀ (pins:List (Addr × Obj)) (s:Shared) (σ:St) (H:Hp) (xs:List V) (us:List Value) (Q:VK),Inv X pins σ H s→Vals xs us→r xs H Q→
  wpAny (model X.prog X.w) X.A (call f us) (EP X pins σ Q) X.xe s
def TruR (X:Cx) (r:V→Hp→(Bool→Hp→Prop)→Prop):Prop:=
 ∀ (pins:List (Addr × Obj)) (s:Shared) (σ:St) (H:Hp) (x:V) (v:Value) (Q:Bool→Hp→Prop),Inv X pins σ H s→RelV x v→r x H Q→
  wpAny (model X.prog X.w) X.A (truthy v) (TP X pins σ Q) X.xe s
def tOp (r:R2) (ta tb:TE):TE:=fun σ H Q=>ta σ H fun x H1=>tb σ H1 fun y H2=>r x y H2 Q
inductive rII (C:Int→Int→Prop) (g:Int→Int→V) (x:V) (y:V) (H:Hp) (Q:VK):Prop
 | mk (i j:_) (h1:x=.int i) (h2:y=.int j) (h3:C i j) (h4:Q (g i j) H):rII C g x y H Q
def rI (C:Int→Int→Prop) (g:Int→Int→V):R2:=fun x y H Q=>rII C g x y H Q
inductive rI0I (g:Int→Int→V) (x:V) (y:V) (H:Hp) (Q:VK):Prop
 | mk (i j:_) (h1:x=.int i) (h2:y=.int j) (h3:Q (g i j) H):rI0I g x y H Q
def rI0 (g:Int→Int→V):R2:=fun x y H Q=>rI0I g x y H Q
section
variable {X:Cx} {a b c:Expr} {ta tb tc:TE} {pos:Pos}
theorem binT (ha:PE X a ta) (hb:PE X b tb) {pins:List (Addr × Obj)} {s:Shared} {σ:St} {H:Hp} {R:V→V→Hp→Prop} (I:Inv X pins σ H s)
  (h:ta σ H fun x H1=>tb σ H1 fun y H2=>R x y H2) {Q:Value→Shared→Prop} {f:Value→Value→Sem Value}
  (hf:∀ v u s2 x y H2,Inv X pins σ H2 s2→RelV x v→RelV y u→R x y H2→wpAny (model X.prog X.w) X.A (f v u) Q X.xe s2) :
  wpAny (model X.prog X.w) X.A (eval a X.env) (fun v s₁=>wpAny (model X.prog X.w) X.A (eval b X.env) (fun u s₂=>wpAny (model X.prog X.w) X.A (f v u) Q X.xe s₂) X.xe s₁) X.xe s:=by
 refine thn (ha pins s σ H _ I h) fun v s1 ⟨x,H1,I1,r1,q1⟩=>?_
 refine thn (hb pins s1 σ H1 _ I1 q1) fun u s2 ⟨y,H2,I2,r2,q2⟩=>?_
 exact hf v u s2 x y H2 I2 r1 r2 q2
theorem pe_op {op:Operator} {r:R2} (ho:OpR X (binaryOp op) r) (ha:PE X a ta) (hb:PE X b tb):PE X (.BinOp a op b pos) (tOp r ta tb):=by
 intro pins s σ H Q I h
 exact wpAny_BinOp (binT ha hb I h fun v u s2 x y H2 I2 rx ry q=>ho pins s2 σ H2 x y v u Q I2 rx ry q)
theorem opI {f:Value→Value→Sem Value} {C:Int→Int→Prop} {g:Int→Int→Int}
  (rule:∀ (i j:Int) (t u:Tok) (s:Shared) (Q:Value→Shared→Prop) (E:Value→Shared→Prop),C i j→Q (.int (g i j) s.toks) { s with toks:=s.toks+1 }→wpAny (model X.prog X.w) X.A (f (.int i t) (.int j u)) Q E s) :
  OpR X f (rI C fun i j=>.int (g i j)):=by
 intro pins s σ H x y v u Q I rx ry h
 obtain ⟨i,j,rfl,rfl,hc,q⟩:=h
 obtain ⟨t,rfl⟩:=rx
 obtain ⟨t',rfl⟩:=ry
 exact rule i j t t' s _ _ hc ⟨.int (g i j),H,I.tok _,⟨_,rfl⟩,q⟩
theorem opI0 {f:Value→Value→Sem Value} {g:Int→Int→Int}
  (rule:∀ (i j:Int) (t u:Tok) (s:Shared) (Q:Value→Shared→Prop) (E:Value→Shared→Prop),Q (.int (g i j) s.toks) { s with toks:=s.toks+1 }→wpAny (model X.prog X.w) X.A (f (.int i t) (.int j u)) Q E s) :
  OpR X f (rI0 fun i j=>.int (g i j)):=by
 intro pins s σ H x y v u Q I rx ry h
 obtain ⟨i,j,rfl,rfl,q⟩:=h
 obtain ⟨t,rfl⟩:=rx
 obtain ⟨t',rfl⟩:=ry
 exact rule i j t t' s _ _ ⟨.int (g i j),H,I.tok _,⟨_,rfl⟩,q⟩
theorem opB0 {f:Value→Value→Sem Value} {g:Int→Int→Bool}
  (rule:∀ (i j:Int) (t u:Tok) (s:Shared) (Q:Value→Shared→Prop) (E:Value→Shared→Prop),Q (.bool (g i j)) s→wpAny (model X.prog X.w) X.A (f (.int i t) (.int j u)) Q E s) :
  OpR X f (rI0 fun i j=>.bl (g i j)):=by
 intro pins s σ H x y v u Q I rx ry h
 obtain ⟨i,j,rfl,rfl,q⟩:=h
 obtain ⟨t,rfl⟩:=rx
 obtain ⟨t',rfl⟩:=ry
 exact rule i j t t' s _ _ ⟨.bl (g i j),H,I,rfl,q⟩
def CDiv (i j:Int):Prop:=0 < j∧j < 1073741824
def CPow (i j:Int):Prop:=0≤j∧j≤1000000∧i.natAbs < 2 ^ 64
def CMul (i j:Int):Prop:=(-(2 ^ 64) < i∧i < 2 ^ 64)∨(-(2 ^ 64) < j∧j < 2 ^ 64)
theorem CMul.ok {i j:Int} (h:CMul i j):IntMulOk i j:=by
 rcases h with ⟨h1,h2⟩ | ⟨h1,h2⟩
 ·exact .of_left (intBits_le_64 h1 h2)
 ·exact .of_right (intBits_le_64 h1 h2)
theorem op_add:OpR X (binaryOp .Add) (rI0 fun i j=>.int (i+j)):=opI0 fun _ _ _ _ _ _ _ q=>add_int q
theorem op_sub:OpR X (binaryOp .Sub) (rI0 fun i j=>.int (i - j)):=opI0 fun _ _ _ _ _ _ _ q=>sub_int q
theorem op_mul:OpR X (binaryOp .Mult) (rI CMul fun i j=>.int (i * j)):=opI fun _ _ _ _ _ _ _ hc q=>mul_int q hc.ok
theorem op_fdiv:OpR X (binaryOp .FloorDiv) (rI CDiv fun i j=>.int (i / j)):=opI fun i j _ _ _ _ _ hc q=>by
 have h1:(0:Int) < j:=hc.1
 have h2:j < 1073741824:=hc.2
 exact floordiv_int (by omega) (by rw [Int.fdiv_eq_ediv_of_nonneg i (by omega)]; exact q) (.inl (PyProof.noPylong_small (by omega)))
theorem op_mod:OpR X (binaryOp .Mod) (rI (fun _ j=>0 < j) fun i j=>.int (i % j)):=opI fun i j _ _ _ _ _ hc q=>by
 have h1:(0:Int) < j:=hc
 exact mod_int' (by omega) (by rw [Int.fmod_eq_emod_of_nonneg i (by omega)]; exact q)
theorem op_pow:OpR X (binaryOp .Pow) (rI CPow fun i j=>.int (i ^ j.toNat)):=opI fun _ _ _ _ _ _ _ hc q=>pow_int_small hc.1 hc.2.1 hc.2.2 q
end
def scal:V→V→Bool
 | .non,.non=>true | .non,.int _=>true | .int _,.non=>true | .non,.bl _=>true | .bl _,.non=>true | .non,.str _=>true | .str _,.non=>true
 | .int _,.int _=>true | .bl _,.bl _=>true | .str _,.str _=>true | .byt _,.byt _=>true
 | .int _,.str _=>true | .str _,.int _=>true | .bl _,.str _=>true | .str _,.bl _=>true
 | _,_=>false
def rEq:R2:=fun x y H Q=>scal x y=true∧Q (.bl (decide (x=y))) H
def rNe:R2:=fun x y H Q=>scal x y=true∧Q (.bl (!decide (x=y))) H
theorem dec_int {i j:Int}:decide (V.int i=V.int j)=(i==j):=by
 rw [Bool.eq_iff_iff]
 simp
theorem dec_bl {i j:Bool}:decide (V.bl i=V.bl j)=(i==j):=by
 rw [Bool.eq_iff_iff]
 simp
theorem dec_str {i j:Str}:decide (V.str i=V.str j)=(i==j):=by
 rw [Bool.eq_iff_iff]
 simp
theorem dec_byt {i j:Array UInt8}:decide (V.byt i=V.byt j)=(i.toList==j.toList):=by
 rw [Bool.eq_iff_iff]
 cases i
 cases j
 simp
section
variable {X:Cx} {a b c:Expr} {ta tb tc:TE} {pos:Pos}
theorem fin_bl {pins:List (Addr × Obj)} {σ:St} {H:Hp} {s:Shared} {Q:VK} {k k':Bool} (I:Inv X pins σ H s) (q:Q (.bl k) H) (e:k=k'):EP X pins σ Q (.bool k') s:=by
 subst e
 exact ⟨.bl k,H,I,rfl,q⟩
theorem op_eq:OpR X (compareOp .Eq) rEq:=by
 intro pins s σ H x y v u Q I rx ry h
 obtain ⟨hs,q⟩:=h
 cases x with
 | non=>
  cases rx
  cases y with
  | non=>cases ry; exact PySem.EqNone.eq_none_none (fin_bl I q (by simp))
  | bl j=>cases ry; exact PySem.EqNone.eq_none_bool (fin_bl I q (by simp))
  | int j=>obtain ⟨t',rfl⟩:=ry; exact PySem.EqNone.eq_none_int (fin_bl I q (by simp))
  | str j=>obtain ⟨t',rfl⟩:=ry; exact PySem.EqNone.eq_none_str (fin_bl I q (by simp))
  | _=>exact absurd (show false=true from hs) Bool.false_ne_true
 | bl i=>
  cases rx
  cases y with
  | non=>cases ry; exact PySem.EqNone.eq_bool_none (fin_bl I q (by simp))
  | bl j=>cases ry; exact eq_bool (fin_bl I q dec_bl)
  | str j=>obtain ⟨t',rfl⟩:=ry; exact PySem.EqMixed.eq_bool_str (fin_bl I q (by simp))
  | _=>exact absurd (show false=true from hs) Bool.false_ne_true
 | int i=>
  obtain ⟨t,rfl⟩:=rx
  cases y with
  | non=>cases ry; exact PySem.EqNone.eq_int_none (fin_bl I q (by simp))
  | int j=>obtain ⟨t',rfl⟩:=ry; exact eq_int (fin_bl I q dec_int)
  | str j=>obtain ⟨t',rfl⟩:=ry; exact PySem.EqMixed.eq_int_str (fin_bl I q (by simp))
  | _=>exact absurd (show false=true from hs) Bool.false_ne_true
 | str i=>
  obtain ⟨t,rfl⟩:=rx
  cases y with
  | non=>cases ry; exact PySem.EqNone.eq_str_none (fin_bl I q (by simp))
  | bl j=>cases ry; exact PySem.EqMixed.eq_str_bool (fin_bl I q (by simp))
  | int j=>obtain ⟨t',rfl⟩:=ry; exact PySem.EqMixed.eq_str_int (fin_bl I q (by simp))
  | str j=>obtain ⟨t',rfl⟩:=ry; exact eq_str (fin_bl I q dec_str)
  | _=>exact absurd (show false=true from hs) Bool.false_ne_true
 | byt i=>
  obtain ⟨t,rfl⟩:=rx
  cases y with
  | byt j=>obtain ⟨t',rfl⟩:=ry; exact PySem.W.eq_bytes (fin_bl I q dec_byt)
  | _=>exact absurd (show false=true from hs) Bool.false_ne_true
 | _=>cases y <;> exact absurd (show false=true from hs) Bool.false_ne_true
theorem op_ne:OpR X (compareOp .NotEq) rNe:=by
 intro pins s σ H x y v u Q I rx ry h
 obtain ⟨hs,q⟩:=h
 cases x with
 | non=>
  cases rx
  cases y with
  | non=>cases ry; exact PySem.EqNone.ne_none_none (fin_bl I q (by simp))
  | bl j=>cases ry; exact PySem.EqNone.ne_none_bool (fin_bl I q (by simp))
  | int j=>obtain ⟨t',rfl⟩:=ry; exact PySem.EqNone.ne_none_int (fin_bl I q (by simp))
  | str j=>obtain ⟨t',rfl⟩:=ry; exact PySem.EqNone.ne_none_str (fin_bl I q (by simp))
  | _=>exact absurd (show false=true from hs) Bool.false_ne_true
 | bl i=>
  cases rx
  cases y with
  | non=>cases ry; exact PySem.EqNone.ne_bool_none (fin_bl I q (by simp))
  | bl j=>cases ry; exact ne_bool (fin_bl I q (congrArg not dec_bl))
  | str j=>obtain ⟨t',rfl⟩:=ry; exact PySem.EqMixed.ne_bool_str (fin_bl I q (by simp))
  | _=>exact absurd (show false=true from hs) Bool.false_ne_true
 | int i=>
  obtain ⟨t,rfl⟩:=rx
  cases y with
  | non=>cases ry; exact PySem.EqNone.ne_int_none (fin_bl I q (by simp))
  | int j=>obtain ⟨t',rfl⟩:=ry; exact ne_int (fin_bl I q (congrArg not dec_int))
  | str j=>obtain ⟨t',rfl⟩:=ry; exact PySem.EqMixed.ne_int_str (fin_bl I q (by simp))
  | _=>exact absurd (show false=true from hs) Bool.false_ne_true
 | str i=>
  obtain ⟨t,rfl⟩:=rx
  cases y with
  | non=>cases ry; exact PySem.EqNone.ne_str_none (fin_bl I q (by simp))
  | bl j=>cases ry; exact PySem.EqMixed.ne_str_bool (fin_bl I q (by simp))
  | int j=>obtain ⟨t',rfl⟩:=ry; exact PySem.EqMixed.ne_str_int (fin_bl I q (by simp))
  | str j=>obtain ⟨t',rfl⟩:=ry; exact ne_str (fin_bl I q (congrArg not dec_str))
  | _=>exact absurd (show false=true from hs) Bool.false_ne_true
 | byt i=>
  obtain ⟨t,rfl⟩:=rx
  cases y with
  | byt j=>obtain ⟨t',rfl⟩:=ry; exact PySem.W.ne_bytes (fin_bl I q (congrArg not dec_byt))
  | _=>exact absurd (show false=true from hs) Bool.false_ne_true
 | _=>cases y <;> exact absurd (show false=true from hs) Bool.false_ne_true
theorem op_lt:OpR X (compareOp .Lt) (rI0 fun i j=>.bl (decide (i < j))):=opB0 fun _ _ _ _ _ _ _ q=>lt_int q
theorem op_gt:OpR X (compareOp .Gt) (rI0 fun i j=>.bl (decide (j < i))):=opB0 fun _ _ _ _ _ _ _ q=>gt_int q
theorem op_ge:OpR X (compareOp .GtE) (rI0 fun i j=>.bl (decide (j≤i))):=opB0 fun _ _ _ _ _ _ _ q=>ge_int q
theorem op_in_str:OpR X (compareOp .In) (fun x y H Q=>∃ i j,x=.str i∧y=.str j∧Q (.bl (!(Builtin.Str.occurrences j i 0 j.length 1).isEmpty)) H):=by
 intro pins s σ H x y v u Q I rx ry h
 obtain ⟨i,j,rfl,rfl,q⟩:=h
 obtain ⟨t,rfl⟩:=rx
 obtain ⟨t',rfl⟩:=ry
 exact in_str (fin_bl I q rfl)
theorem op_isN:OpR X (compareOp .Is) (fun x y H Q=>y=.non∧Q (.bl (decide (x=.non))) H):=by
 intro pins s σ H x y v u Q I rx ry h
 obtain ⟨rfl,q⟩:=h
 cases ry
 refine is_none_gen (fin_bl I q ?_)
 cases x <;> first
  | (cases rx; rfl)
  | (obtain ⟨t,rfl⟩:=rx; rfl)
theorem nomark (b:Expr) {op:CmpOp} (h:op≠.In:=by decide) (h2:op≠.NotIn:=by decide):behindInMarks op b=false:=by
 have e1:(op==CmpOp.In)=false:=by cases op <;> first | rfl | exact absurd rfl h
 have e2:(op==CmpOp.NotIn)=false:=by cases op <;> first | rfl | exact absurd rfl h2
 cases b <;> simp [behindInMarks,e1,e2]
theorem pe_cmpR {op:CmpOp} {r:R2} (ho:OpR X (compareOp op) r) (ha:PE X a ta) (hb:PE X b tb) (hm:behindInMarks op b=false):PE X (.Compare a [op] [b] pos) (tOp r ta tb):=by
 intro pins s σ H Q I h
 exact wpAny_Compare1 (binT ha hb I h fun v u s2 x y H2 I2 rx ry q=>ho pins s2 σ H2 x y v u Q I2 rx ry q) hm
inductive tTestI (Q:Bool→Hp→Prop) (x:V) (H':Hp):Prop
 | mk (k:_) (h1:x=.bl k) (h2:Q k H'):tTestI Q x H'
def tTest (t:TE):TT:=fun σ H Q=>t σ H fun x H'=>tTestI Q x H'
theorem pt_cmpR {op:CmpOp} {r:R2} (ho:OpR X (compareOp op) r) (ha:PE X a ta) (hb:PE X b tb) (hm:behindInMarks op b=false):PT X (.Compare a [op] [b] pos) (tTest (tOp r ta tb)):=by
 intro pins s σ H Q I h
 refine wpAny_isTrue_Compare1 (thn (ha pins s σ H _ I h) fun v s1 ⟨x,H1,I1,r1,q1⟩=>thn (hb pins s1 σ H1 _ I1 q1) fun u s2 ⟨y,H2,I2,r2,q2⟩=>
  thn (ho pins s2 σ H2 x y v u _ I2 r1 r2 q2) fun c s3 ⟨z,H3,I3,r3,k,e,q3⟩=>?_) hm
 subst e
 cases r3
 exact wpAny_truthy_bool ⟨H3,I3,q3⟩
def tChain (r r':R2) (ta tb tc:TE):TE:=fun σ H Q=>ta σ H fun x H1=>tb σ H1 fun y H2=>r x y H2 fun z H3=>∃ k,z=.bl k∧
 (if k=true then tc σ H3 fun w' H4=>r' y w' H4 Q else Q (.bl false) H3)
theorem pe_chain {op op':CmpOp} {r r':R2} (ho:OpR X (compareOp op) r) (ho':OpR X (compareOp op') r') (ha:PE X a ta) (hb:PE X b tb) (hc:PE X c tc)
  (hm:lastMarks [op,op'] [b,c]=false:=by with_unfolding_all rfl):PE X (.Compare a [op,op'] [b,c] pos) (tChain r r' ta tb tc):=by
 intro pins s σ H Q I h
 refine Compare_chain (thn (ha pins s σ H _ I h) fun v s1 ⟨x,H1,I1,r1,q1⟩=>chain_link (thn (hb pins s1 σ H1 _ I1 q1) fun u s2 ⟨y,H2,I2,r2,q2⟩=>
  thn (ho pins s2 σ H2 x y v u _ I2 r1 r2 q2) fun d s3 ⟨z,H3,I3,r3,k,e,q3⟩=>?_)) hm
 subst e
 cases r3
 refine wpAny_truthy_bool ?_
 cases k with
 | false=>exact ite_ff ⟨.bl false,H3,I3,rfl,q3⟩
 | true=>exact ite_tt (chain_last (thn (hc pins s3 σ H3 _ I3 q3) fun w' s4 ⟨z',H4,I4,r4,q4⟩=>ho' pins s4 σ H4 y z' u w' Q I4 r2 r4 q4))
def TruV (K:PySem.W.Frag) (x:V) (H:Hp) (k:Bool):Prop:=
 match x with
 | .non=>k=false
 | .bl b=>k=b
 | .int i=>k=(i != 0)
 | .str y=>y.length≤sizeLine∧k=((y.length:Int) != 0)
 | .byt y=>y.size≤sizeLine∧k=((y.size:Int) != 0)
 | .ref p=>(∃ xs,SqL K H p xs∧k = !xs.isEmpty)∨(∃ xs,SqT K H p xs∧k = !xs.isEmpty)∨∃ kvs,H p=some (.dK kvs)∧k = !kvs.isEmpty
 | _=>False
theorem isEmpty_kv {κ:Type} {kvs:List (κ × V)} {vs:List (κ × Value)} (r:KV kvs vs):(!vs.isEmpty) = !kvs.isEmpty:=by
 cases r <;> rfl
theorem isEmpty_of {xs:List V} {its:List Value} (r:Vals xs its):(!its.toArray.isEmpty) = !xs.isEmpty:=by
 cases r <;> simp
theorem line63:(sizeLine:Nat) < 2 ^ 63:=by rw [sizeLine_eq]; decide
theorem tru_ok:TruR X (fun x H Q=>∃ k,TruV X.K x H k∧Q k H):=by
 intro pins s σ H x v Q I rx h
 obtain ⟨k,e,q⟩:=h
 have hl:=line63
 have hs:sizeLine=16777216:=sizeLine_eq
 cases x with
 | non=>
  cases rx
  have e':k=false:=e
  subst e'
  exact truthy_none ⟨H,I,q⟩
 | bl b=>
  cases rx
  have e':k=b:=e
  subst e'
  exact wpAny_truthy_bool ⟨H,I,q⟩
 | int i=>
  obtain ⟨t,rfl⟩:=rx
  have e':k=(i != 0):=e
  subst e'
  exact PySem.P.truthy_int ⟨H,I,q⟩
 | str y=>
  obtain ⟨t,rfl⟩:=rx
  obtain ⟨hy,e'⟩:y.length≤sizeLine∧k=((y.length:Int) != 0):=e
  subst e'
  exact PySem.P.truthy_str (by omega) ⟨H,I.tok _,q⟩
 | byt y=>
  obtain ⟨t,rfl⟩:=rx
  obtain ⟨hy,e'⟩:y.size≤sizeLine∧k=((y.size:Int) != 0):=e
  subst e'
  exact PySem.W.truthy_bytes (by omega) ⟨H,I.tok _,q⟩
 | ref p=>
  cases rx
  have e':(∃ xs,SqL X.K H p xs∧k = !xs.isEmpty)∨(∃ xs,SqT X.K H p xs∧k = !xs.isEmpty)∨∃ kvs,H p=some (.dK kvs)∧k = !kvs.isEmpty:=e
  rcases e' with ⟨xs,hx,e'⟩ | ⟨xs,hx,e'⟩ | ⟨kvs,hx,e'⟩
  ·subst e'
   obtain ⟨its,r,pl,hz⟩:=I.list hx
   have hlen:=r.length
   exact wpAny_truthy_list pl.isList (by simp only [List.size_toArray]; omega) ⟨H,I.tok _,by rw [isEmpty_of r]; exact q⟩
  ·subst e'
   obtain ⟨its,r,pl,hz⟩:=I.tuple hx
   have hlen:=r.length
   exact truthy_tuple pl (by simp only [List.size_toArray]; omega) ⟨H,I.tok _,by rw [isEmpty_of r]; exact q⟩
  ·subst e'
   obtain ⟨hz,hS,vs,r,m⟩:kvs.length≤sizeLine∧(p==sysModules)=false∧∃ vs,KV kvs vs∧s.heap.DictOf (mixKind X.prog X.w) p vs:=I.hok p _ hx
   have hlen:kvs.length=vs.length:=Paired.length r
   exact wpAny_truthy_dict hS m (by omega) ⟨H,I.tok _,by rw [isEmpty_kv r]; exact q⟩
 | _=>exact (show False from e).elim
theorem pt_truth (ha:PE X a ta) (he:∀ whole,isTrue a X.env whole=(do let v ← whole; standAt a.pos; holding [v] (truthy v))) :
  PT X a (fun σ H Q=>ta σ H fun x H'=>∃ k,TruV X.K x H' k∧Q k H'):=by
 intro pins s σ H Q I h
 exact isTrue_plain (thn (ha pins s σ H _ I h) fun v s1 ⟨x,H1,I1,r1,q1⟩=>tru_ok pins s1 σ H1 x v Q I1 r1 q1) (he _)
theorem op_add_str:OpR X (binaryOp .Add) (fun x y H Q=>∃ i j,x=.str i∧y=.str j∧i.length+j.length≤sizeLine∧Q (.str (i ++ j)) H):=by
 intro pins s σ H x y v u Q I rx ry h
 obtain ⟨i,j,rfl,rfl,hz,q⟩:=h
 obtain ⟨t,rfl⟩:=rx
 obtain ⟨t',rfl⟩:=ry
 exact add_str (fun t' tk=>⟨.str (i ++ j),H,I.tok _,⟨_,rfl⟩,q⟩) hz
theorem vals1 {x:V} {us:List Value} (r:Vals [x] us):∃ u,us=[u]∧RelV x u:=by
 cases r with
 | cons r1 r2=>cases r2; exact ⟨_,rfl,r1⟩
theorem vals2 {x y:V} {us:List Value} (r:Vals [x,y] us):∃ u w',us=[u,w']∧RelV x u∧RelV y w':=by
 cases r with
 | cons r1 r2=>
  cases r2 with
  | cons r3 r4=>cases r4; exact ⟨_,_,rfl,r1,r3⟩
theorem call_int1:CallR X (.type "int") (fun xs H Q=>(∃ i,xs=[.int i]∧Q (.int i) H)∨∃ k,xs=[.bl k]∧Q (.int (if k then 1 else 0)) H):=by
 intro pins s σ H xs us Q I r h
 rcases h with ⟨i,rfl,q⟩ | ⟨k,rfl,q⟩
 ·obtain ⟨u,rfl,t,rfl⟩:=vals1 r
  exact call_int_int ⟨.int i,H,I,⟨_,rfl⟩,q⟩
 ·obtain ⟨u,rfl,r1⟩:=vals1 r
  cases r1
  exact call_int_bool ⟨.int (if k then 1 else 0),H,I.tok _,⟨_,rfl⟩,q⟩
end
end L2
namespace L2
open PySem PySem.Spec PyProof.Rows
structure ObjM (h:Heap) (x dx C:Addr) (mA:Str→Option Value):Prop where
 obj:h.get? x=some (PySem.W.instObj C dx)
 ns:h.Ns1 dx mA
 ne:dx≠x
theorem lookIn_ns {h:Heap} {dx:Addr} {mA:Str→Option Value} (n:h.Ns1 dx mA):∃ od,h.get? dx=some od∧∀ name,PySem.W.lookIn name od=some (mA name):=by
 obtain ⟨o,es,ep,ho,hd,hk,_,hm⟩:=n
 refine ⟨o,ho,fun name=>?_⟩
 have e:=hm name
 unfold nsFind findBy at e
 rw [← Array.find?_toList] at e
 unfold PySem.W.lookIn
 rw [hd]
 dsimp only
 split
 ·rename_i y q
  rw [q] at e
  exact congrArg some e
 ·rename_i q
  rw [q] at e
  have a:es.toList.any (·.refKey)=false:=by
   rw [List.any_eq_false]
   intro y hy
   obtain ⟨z,t,hkey⟩:=hk y (Array.mem_toList_iff.mp hy)
   simp [DictEntry.refKey,hkey]
  have a':¬ es.toList.any (·.refKey)=true:=by rw [a]; exact Bool.false_ne_true
  rw [if_neg a']
  exact congrArg some e
theorem ObjM.look {h:Heap} {x dx C:Addr} {mA:Str→Option Value} (I:ObjM h x dx C mA):∃ od,PySem.W.InstAt h x (PySem.W.instObj C dx) C (some od)∧∀ name,PySem.W.lookIn name od=some (mA name):=
 let ⟨od,ho,hl⟩:=lookIn_ns I.ns
 ⟨od,⟨I.obj,rfl,rfl,ho⟩,hl⟩
section
variable {prog:Program} {w:World} {A:Around} {E:Value→Shared→Prop} {s:Shared} {K:PySem.W.Frag} {x dx C f:Addr} {mA:Str→Option Value} {name:Str} {v:Value}
end
def putF (f:Str) (v:V):List (Str × V)→List (Str × V)
 | []=>[(f,v)]
 | (g,x) :: r=>if g=f then (g,v) :: r else (g,x) :: putF f v r
theorem lookup_putF (f g:Str) (v:V):∀ fs:List (Str × V),(putF f v fs).lookup g=if g=f then some v else fs.lookup g
 | []=>by
  show List.lookup g [(f,v)]=_
  by_cases h:g=f
  ·have hb:(g==f)=true:=beq_iff_eq.mpr h
   simp only [List.lookup,hb,if_pos h]
  ·have hb:(g==f)=false:=beq_eq_false_iff_ne.mpr h
   simp only [List.lookup,hb,if_neg h]
 | (k,x) :: r=>by
  have ih:=lookup_putF f g v r
  rw [show putF f v ((k,x) :: r)=(if k=f then (k,v) :: r else (k,x) :: putF f v r) from rfl]
  by_cases hk:k=f
  ·rw [if_pos hk]
   by_cases h:g=k
   ·have hb:(g==k)=true:=beq_iff_eq.mpr h
    simp only [List.lookup,hb,if_pos (h.trans hk)]
   ·have hb:(g==k)=false:=beq_eq_false_iff_ne.mpr h
    simp only [List.lookup,hb,if_neg (fun e:g=f=>h (e.trans hk.symm))]
  ·rw [if_neg hk]
   by_cases h:g=k
   ·have hb:(g==k)=true:=beq_iff_eq.mpr h
    simp only [List.lookup,hb,if_neg (fun e:g=f=>hk (h.symm.trans e))]
   ·have hb:(g==k)=false:=beq_eq_false_iff_ne.mpr h
    simp only [List.lookup,hb]
    exact ih
theorem keys_putF (f:Str) (v:V):∀ fs:List (Str × V),f∈(putF f v fs).map (·.1)∧∀ g,g∈fs.map (·.1)→g∈(putF f v fs).map (·.1)
 | []=>⟨by simp [putF],fun g h=>by simp at h⟩
 | (k,x) :: r=>by
  obtain ⟨i1,i2⟩:=keys_putF f v r
  rw [show putF f v ((k,x) :: r)=(if k=f then (k,v) :: r else (k,x) :: putF f v r) from rfl]
  by_cases hk:k=f
  ·rw [if_pos hk]
   subst hk
   exact ⟨by simp,fun g h=>by simpa using h⟩
  ·rw [if_neg hk]
   refine ⟨?_,fun g h=>?_⟩
   ·rw [List.map_cons]
    exact List.mem_cons_of_mem _ i1
   ·rw [List.map_cons] at h ⊢
    rcases List.mem_cons.mp h with e | e
    ·exact List.mem_cons.mpr (.inl e)
    ·exact List.mem_cons_of_mem _ (i2 g e)
theorem RelO.some_of {v:V} {o:Option Value} (r:RelO (some v) o):∃ u,o=some u∧RelV v u:=by
 cases o with
 | none=>exact (show False from r).elim
 | some u=>exact ⟨u,rfl,r⟩
theorem handed_of {v:V} {u:Value} (r:RelV v u):PySem.W.handedIn u=true:=by
 cases v with
 | non=>cases (show u=Value.none from r); rfl
 | bl b=>cases (show u=Value.bool b from r); rfl
 | int i=>obtain ⟨t,e⟩:=(show ∃ t,u=Value.int i t from r); cases e; rfl
 | str x=>obtain ⟨t,e⟩:=(show ∃ t,u=Value.str x t from r); cases e; rfl
 | byt b=>obtain ⟨t,e⟩:=(show ∃ t,u=Value.bytes b t from r); cases e; rfl
 | flt b=>obtain ⟨t,e⟩:=(show ∃ t,u=Value.float b t from r); cases e; rfl
 | ref a=>cases (show u=Value.ref a from r); rfl
 | ty n=>cases (show u=Value.type n from r); rfl
section
variable {P:Program} {w:World} {H H':Hp} {h h':Heap} {a C dx:Addr} {fs fs':List (Str × V)}
theorem ins_get (hok:HOk P w H h) (e:H a=some (.ins C dx fs)):∃ mA,ObjM h a dx C mA∧(∀ f,RelO (fs.lookup f) (mA f))∧PySem.Within mA (fs.map (·.1))∧fs.length≤1000∧H dx=some (.own a):=by
 obtain ⟨d,z,ne,ob,mA,n,r,q⟩:=(show ObjOk P w H h a (.ins C dx fs) from hok a _ e)
 exact ⟨mA,⟨ob,n,ne⟩,r,q,z,d⟩
end
structure Cls (K:PySem.W.Frag) (C:Addr):Prop where
 pg:PySem.W.plainGet K C Str.empty=true
 hd:PySem.W.hasDictIn K C=true
 po:PySem.W.plainOver K C=true
 sa:PySem.W.findIn K (.ref C) "__setattr__" = some (some (.builtin "object.__setattr__"))
theorem Cls.get {K:PySem.W.Frag} {C:Addr} (c:Cls K C) (f:Str):PySem.W.plainGet K C f=true:=c.pg
def NoAttr (K:PySem.W.Frag) (C:Addr) (f:Str):Prop:=PySem.W.findIn K (.ref C) f=some none
section
variable {X:Cx} {pins:List (Addr × Obj)} {σ:St} {H:Hp} {s:Shared} {a C dx:Addr} {fs:List (Str × V)} {f:Str} {v:V} {A:Around} {E:Value→Shared→Prop}
theorem attr_of {prog:Program} {w:World} {env:Env} {e:Expr} {f:Str} {pos:Pos} {s:Shared} {Q:Value→Shared→Prop} (hb:attributeBase e f env (eval e env)=eval e env)
  (h:wpAny (model prog w) A (eval e env) (fun o s₁=>wpAny (model prog w) A (getAttr o f true) Q E s₁) E s):wpAny (model prog w) A (eval (.Attribute e f pos) env) Q E s:=
 Attribute_any_ h (by rw [arm_eval_Attribute,hb])
end
section
variable {X:Cx} {o e value:Expr} {f:Str} {pos pos' tpos:Pos} {ta tv:TE}
end
section
variable {X:Cx} {pins:List (Addr × Obj)} {σ:St} {H:Hp} {s:Shared} {A:Around} {E:Value→Shared→Prop} {Q:Value→Shared→Prop} {c:Value} {b:Bool}
inductive TyOf (K:PySem.W.Frag) (H:Hp):V→Value→Prop where
 | non:TyOf K H .non (.type "NoneType")
 | bl (x:Bool):TyOf K H (.bl x) (.type "bool")
 | int (i:Int):TyOf K H (.int i) (.type "int")
 | str (x:Str):TyOf K H (.str x) (.type "str")
 | flt (x:UInt64):TyOf K H (.flt x) (.type "float")
 | lst {a:Addr} {xs:List V} (e:H a=some (.lst xs)):TyOf K H (.ref a) (.type "list")
 | frz {a:Addr} {o:Obj} {xs:List V} (e:H a=some (.frz o (.lst xs))):TyOf K H (.ref a) (.type "list")
 | tup {a:Addr} {xs:List V} (e:H a=some (.tup xs)):TyOf K H (.ref a) (.type "tuple")
 | dK {a:Addr} {kvs:List (Key × V)} (e:H a=some (.dK kvs)):TyOf K H (.ref a) (.type "dict")
 | dT {a:Addr} {kvs:List (List Key × V)} (e:H a=some (.dT kvs)):TyOf K H (.ref a) (.type "dict")
 | ins {a C dx:Addr} {fs:List (Str × V)} (e:H a=some (.ins C dx fs)) (cl:Cls K C) (ha:PySem.W.findIn K (.ref C) "__class__" = some (some (.builtin "object.__class__")))
   (hn:PySem.W.specialIn K (.builtin "object.__class__") "__get__" = some (some (.builtin "getset_descriptor.__get__"))) (htk:PySem.W.takesIn K (.builtin "object.__class__")=some true)
   (hm:PySem.W.mroIn K C (.type "object")=some true):TyOf K H (.ref a) (.ref C)
theorem isinst_ok {x:V} {u t:Value} (I:Inv X pins σ H s) (rx:RelV x u) (ty:TyOf X.K H x t) (e:PySem.W.kitOne X.K t c=some b) (h:∀ tk,Q (.bool b) { s with toks:=tk }) :
  wpAny (model X.prog X.w) A (call (.builtin "isinstance") [u,c]) Q E s:=by
 cases ty with
 | non=>cases (show u=Value.none from rx); exact PySem.W.kia_one PySem.W.kitx_none I.kIn True.intro e (fun z=>nomatch z) h
 | bl y=>cases (show u=Value.bool y from rx); exact PySem.W.kia_one PySem.W.kitx_bool I.kIn True.intro e (fun z=>nomatch z) h
 | int i=>obtain ⟨t,q⟩:=(show ∃ t,u=Value.int i t from rx); cases q; exact PySem.W.kia_one PySem.W.kitx_int I.kIn True.intro e (fun z=>nomatch z) h
 | str y=>obtain ⟨t,q⟩:=(show ∃ t,u=Value.str y t from rx); cases q; exact PySem.W.kia_one PySem.W.kitx_str I.kIn True.intro e (fun z=>nomatch z) h
 | flt y=>obtain ⟨t,q⟩:=(show ∃ t,u=Value.float y t from rx); cases q; exact PySem.W.kia_one PySem.W.kitx_float I.kIn True.intro e (fun z=>nomatch z) h
 | @lst a xs ea=>
  cases (show u=Value.ref a from rx)
  obtain ⟨_,_,n,_,h1⟩:=(show ObjOk X.prog X.w H s.heap a (.lst xs) from I.hok a _ ea)
  exact PySem.W.kia_one PySem.W.kitx_list I.kIn ⟨_,h1,rfl⟩ e (fun z=>nomatch z) h
 | @frz a ob xs ea=>
  cases (show u=Value.ref a from rx)
  obtain ⟨_,_,_,n,_,h1⟩:=(show ObjOk X.prog X.w H s.heap a (.frz ob (.lst xs)) from I.hok a _ ea)
  exact PySem.W.kia_one PySem.W.kitx_list I.kIn ⟨_,h1,rfl⟩ e (fun z=>nomatch z) h
 | @tup a xs ea=>
  cases (show u=Value.ref a from rx)
  obtain ⟨_,_,_,p⟩:=(show ObjOk X.prog X.w H s.heap a (.tup xs) from I.hok a _ ea)
  obtain ⟨o,h1,h2,_⟩:=p
  exact PySem.W.kia_one PySem.W.kitx_tuple I.kIn ⟨o,h1,h2⟩ e (fun z=>nomatch z) h
 | @dK a kvs ea=>
  cases (show u=Value.ref a from rx)
  obtain ⟨_,_,vs,_,p⟩:=(show ObjOk X.prog X.w H s.heap a (.dK kvs) from I.hok a _ ea)
  obtain ⟨o,es,ep,h1,h2,_⟩:=p
  exact PySem.W.kia_one PySem.W.kitx_dict I.kIn ⟨o,h1,h2.1⟩ e (fun z=>nomatch z) h
 | @dT a kvs ea=>
  cases (show u=Value.ref a from rx)
  obtain ⟨_,_,xs,_,o,es,ep,h1,h2,_⟩:=(show ObjOk X.prog X.w H s.heap a (.dT kvs) from I.hok a _ ea)
  exact PySem.W.kia_one PySem.W.kitx_dict I.kIn ⟨o,h1,h2.1⟩ e (fun z=>nomatch z) h
 | @ins a C dx fs ea cl ha hn htk hm=>
  cases (show u=Value.ref a from rx)
  obtain ⟨mA,O,_⟩:=ins_get I.hok ea
  obtain ⟨od,J,_⟩:=O.look
  exact PySem.W.kia_one (PySem.W.kitx_own (cl.get _) cl.hd ha hn htk hm) I.kIn J e (fun z=>nomatch z) h
end
end L2
namespace L2
open PySem PySem.Spec PyProof.Rows
structure Room (k:Nat) (A:Around):Prop where
 hd:A.handled=none
 dp:A.depth+3 * k+5 < recursionLimit
 un:A.units+16 * k+200 < cLine
theorem Room.mono {j k:Nat} {A:Around} (r:Room k A) (h:j≤k):Room j A:=⟨r.hd,by have:=r.dp; omega,by have:=r.un; omega⟩
theorem Room.deeper {k:Nat} {A:Around} (r:Room (k+1) A) (env:Env):Room k (A.deeper env):=
 ⟨r.hd,by have:=r.dp; show A.depth+1+3 * k+5 < _; omega,by have:=r.un; show A.units+3+16 * k+200 < _; omega⟩
theorem make_depth {A:Around} {C:Addr} {us:List Value} {kw:List (Str × Value)}:(A.under (.builtin "type.__call__" ⟨.ref C :: us,kw⟩)).depth=A.depth+1:=by
 first | rfl | simp [Around.under,Code.weight,Code.isCreation,Code.isGuard,Code.isCaller,Code.frames,Code.isFrame,guardIds]
theorem make_units {A:Around} {C:Addr} {us:List Value} {kw:List (Str × Value)}:(A.under (.builtin "type.__call__" ⟨.ref C :: us,kw⟩)).units=A.units+1:=by
 first | rfl | simp [Around.under,Code.cUnits,Code.frames,Code.isFrame]
theorem Room.make {k:Nat} {A:Around} (r:Room (k+1) A) (C:Addr) (us:List Value) (kw:List (Str × Value)):Room k (A.under (.builtin "type.__call__" ⟨.ref C :: us,kw⟩)):=
 ⟨r.hd,by have:=r.dp; rw [make_depth]; omega,by have:=r.un; rw [make_units]; omega⟩
theorem Room.depth {k:Nat} {A:Around} (r:Room k A):A.depth < recursionLimit:=by have:=r.dp; omega
theorem Room.units {k:Nat} {A:Around} (r:Room k A):A.units+64 < cLine:=by have:=r.un; omega
def tNil:TA:=fun _ H Q=>Q [] H
def tCons (ta:TE) (tr:TA):TA:=fun σ H Q=>ta σ H fun x H1=>tr σ H1 fun xs H2=>Q (x :: xs) H2
section
variable {X:Cx} {e:Expr} {es:List Expr} {te:TE} {t:TA} {pos:Pos}
theorem pa_nil:PA X [] tNil:=fun _ _ _ _ H Q I h=>Calls.spliced_nil ⟨[],H,I,.nil,h⟩
theorem pa_cons (ha:PE X e te) (hr:PA X es t) (hs:starEach (e :: es) X.env=(false,eval e X.env) :: starEach es X.env:=by rfl):PA X (e :: es) (tCons te t):=by
 intro pos pins s σ H Q I h
 rw [hs]
 show wpAny _ _ (spliced ((false,eval e X.env) :: backTo pos (starEach es X.env))) _ _ s
 refine Calls.spliced_cons (thn (ha pins s σ H _ I h) fun u s1 ⟨x,H1,I1,r1,q1⟩=>?_)
 exact thn (hr pos pins s1 σ H1 _ I1 q1) fun us s2 ⟨xs,H2,I2,r2,q2⟩=>⟨x :: xs,H2,I2,.cons r1 r2,q2⟩
def tTup (t:TA):TE:=fun σ H Q=>t σ H fun xs H1=>xs.length≤sizeLine∧∀ p,H1 p=none→Q (.ref p) (upd H1 p (.tup xs))
def tLst (t:TA):TE:=fun σ H Q=>t σ H fun xs H1=>xs.length≤sizeLine∧∀ p,H1 p=none→Q (.ref p) (upd H1 p (.lst xs))
theorem pe_tup {x1} (h:PA X es t):PE X (.Tuple es x1 pos) (tTup t):=by
 intro pins s σ H Q I hq
 refine wpAny_Tuple_spliced (thn (h pos pins s σ H _ I hq) fun us s1 ⟨xs,H1,I1,r,z,q⟩=>⟨by rw [← r.length]; exact z,?_⟩)
 have hf:H1 s1.heap.objs.size=none:=I1.hok.fresh (Nat.le_refl _)
 refine ⟨.ref s1.heap.objs.size,upd H1 s1.heap.objs.size (.tup xs),I1.laid (t':=s1.toks) (fun b u e=>Heap.get?_push_of_some _ e) (Nat.le_refl _) ?_,rfl,q _ hf⟩
 exact ⟨z,us,r,⟨_,Heap.get?_push_size _ rfl,rfl,_,rfl⟩⟩
theorem pe_lst (h:PA X es t):PE X (.List es pos) (tLst t):=by
 intro pins s σ H Q I hq
 refine wpAny_List_spliced (thn (h pos pins s σ H _ I hq) fun us s1 ⟨xs,H1,I1,r,z,q⟩=>⟨by rw [← r.length]; exact z,?_⟩)
 have hf:H1 s1.heap.objs.size=none:=I1.hok.fresh (Nat.le_refl _)
 refine ⟨.ref s1.heap.objs.size,upd H1 s1.heap.objs.size (.lst xs),I1.laid (t':=s1.toks) (fun b u e=>Heap.get?_push_of_some _ e) (Nat.le_refl _) ?_,rfl,q _ hf⟩
 exact ⟨z,us,0,r,Heap.get?_push_size _ rfl⟩
end
abbrev Sp:=List V→Hp→VK→XK→Prop
abbrev CXT:=List Env→Hp→Shared→XK→Value→Shared→Prop
structure Env0 (P:Program) (w:World) (K:PySem.W.Frag) (mg:Str→Option Value) (base:Heap) (A:Around) (outer:List Env) (s:Shared) (H:Hp):Prop where
 frames:A.frames=some outer
 mod:Mod K mg base
 bs:∀ b o,base.get? b=some o→s.heap.get? b=some o∧H b=none
 bsz:base.objs.size≤s.heap.objs.size
 funs:s.heap.FunFrames base outer
 frf:∀ b∈frs outer,H b=none
 hok:HOk P w H s.heap
 bare:AllBare s.gens
def CE (outer:List Env) (P:Program) (w:World) (H:Hp) (s:Shared) (Q:VK) (u:Value) (s':Shared):Prop:=
 ∃ v H',s'.os=s.os∧AllBare s'.gens∧Un (frs outer) [] H H' s.heap s'.heap∧HOk P w H' s'.heap∧RelV v u∧Q v H'
def CR (CX:CXT) (outer:List Env) (P:Program) (w:World) (H:Hp) (s:Shared) (Q:VK) (E:XK) (r:Result) (s':Shared):Prop:=
 match r with
 | .ok (.ret u)=>CE outer P w H s Q u s'
 | .ok _=>False
 | .error e=>CX outer H s E e s'
structure FnOk (P:Program) (w:World) (K:PySem.W.Frag) (mg:Str→Option Value) (base:Heap) (CX:CXT) (k:Nat) (f:Addr) (fd:FuncData) (ps:List Str) (sp:Sp):Prop where
 len:∀ vs H Q E,sp vs H Q E→vs.length=ps.length
 run:∀ (A:Around) (outer:List Env) (s:Shared) (H:Hp) (args:Args) (us:List Value) (vs:List V) (Q:VK) (E:XK),Room k A→Env0 P w K mg base A outer s H→BindsTo s fd args (ps.zip us)→Vals vs us→sp vs H Q E→
  codeAny (model P w) A (.call (.ref f) args) (CR CX outer P w H s Q E) s
theorem FnOk.mono {P:Program} {w:World} {K:PySem.W.Frag} {mg:Str→Option Value} {base:Heap} {CX:CXT} {j k:Nat} {f:Addr} {fd:FuncData} {ps:List Str} {sp:Sp} (F:FnOk P w K mg base CX j f fd ps sp) (h:j≤k) :
  FnOk P w K mg base CX k f fd ps sp:=⟨F.len,fun A outer s H args us vs Q E hr=>F.run A outer s H args us vs Q E (hr.mono h)⟩
theorem Env0.make {P:Program} {w:World} {K:PySem.W.Frag} {mg:Str→Option Value} {base:Heap} {A:Around} {outer:List Env} {s:Shared} {H:Hp} (e:Env0 P w K mg base A outer s H) (C:Addr) (us:List Value) (kw:List (Str × Value)) :
  Env0 P w K mg base (A.under (.builtin "type.__call__" ⟨.ref C :: us,kw⟩)) outer s H:=⟨by first | exact e.frames | (simpa [Around.under,Code.envs,Code.isFrame,pushEnvs] using e.frames),e.mod,e.bs,e.bsz,e.funs,e.frf,e.hok,e.bare⟩
section
variable {X:Cx} {pins:List (Addr × Obj)} {σ:St} {H:Hp} {s s':Shared}
theorem Inv.env0 (I:Inv X pins σ H s):Env0 X.prog X.w X.K X.mg X.base X.A X.stack s H:=
 ⟨I.ok.frames,I.ok.mod,I.bs,Nat.le_trans I.ok.bsz I.sz,I.stack,I.stkFree,I.hok,I.bare⟩
theorem Inv.after {Q:VK} {u:Value} (I:Inv X pins σ H s) (h:CE X.stack X.prog X.w H s Q u s'):EP X pins σ Q u s':=by
 obtain ⟨v,H',os,bare,un,hok,r,q⟩:=h
 obtain ⟨hh,g,d,t,os'⟩:=s'
 obtain rfl:os'=s.os:=os
 exact ⟨v,H',I.call (h':=hh) (g':=g) (d':=d) (t':=t) (ch:=[]) un hok bare (fun b z=>absurd z (by simp)),r,q⟩
end
def tCall (sp:Sp) (dvs:List V) (E:XK) (t:TA):TE:=fun σ H Q=>t σ H fun vs H1=>sp (vs ++ dvs) H1 Q E
def Binds (K:PySem.W.Frag) (fd:FuncData) (ps:List Str) (ds:List Value):Prop:=
 ∀ (s:Shared) (us:List Value),K.In s.heap→(us ++ ds).length=ps.length→BindsTo s fd ⟨us,[]⟩ (ps.zip (us ++ ds))
theorem Binds.all {K:PySem.W.Frag} {fd:FuncData} {ps:List Str} (h:∀ us:List Value,us.length=ps.length→bindArgs fd ⟨us,[]⟩=pure (ps.zip us)):Binds K fd ps []:=fun s us _ hl=>by
 rw [List.append_nil] at hl ⊢
 exact .of_eq (h us hl)
def Passes (CX:CXT) (X:Cx) (E:XK):Prop:=∀ (pins:List (Addr × Obj)) (σ:St) (H:Hp) (s:Shared) (e:Value) (s':Shared),Inv X pins σ H s→CX X.stack H s E e s'→X.xe e s'
section
variable {X:Cx} {CX:CXT} {k:Nat} {f C:Addr} {fd:FuncData} {ps:List Str} {sp:Sp} {dvs:List V} {ds:List Value} {E:XK} {x m:Str} {p pos apos:Pos} {e o:Expr} {es:List Expr} {ta:TE} {t:TA}
theorem run_fn {pins:List (Addr × Obj)} {σ:St} {H:Hp} {s:Shared} {Q:VK} {us:List Value} {vs:List V} (F:FnOk X.prog X.w X.K X.mg X.base CX k f fd ps sp) (hr:Room k X.A) (hb:Binds X.K fd ps ds) (hd:Vals dvs ds) (hx:Passes CX X E)
  (I:Inv X pins σ H s) (r:Vals vs us) (h:sp (vs ++ dvs) H Q E):wpAny (model X.prog X.w) X.A (call (.ref f) us) (EP X pins σ Q) X.xe s:=by
 have r2:Vals (vs ++ dvs) (us ++ ds):=r.append hd
 have hl:(us ++ ds).length=ps.length:=by rw [← r2.length]; exact F.len _ _ _ _ h
 refine wpAny_call (codeAny_mono (F.run X.A X.stack s H ⟨us,[]⟩ (us ++ ds) (vs ++ dvs) Q E hr I.env0 (hb s us I.kIn hl) r2 h) fun r s' hq=>?_)
 cases r with
 | error e=>exact hx pins σ H s e s' I hq
 | ok fl=>
  cases fl with
  | ret u=>exact I.after hq
  | next=>exact False.elim hq
  | brk=>exact False.elim hq
  | cont=>exact False.elim hq
theorem pe_call (F:FnOk X.prog X.w X.K X.mg X.base CX k f fd ps sp) (hr:Room k X.A) (hg:Gl X x) (hm:X.mg x=some (.ref f)) (hk:PySem.W.keepIn X.K (.ref f)=true) (hb:Binds X.K fd ps ds) (hd:Vals dvs ds) (hx:Passes CX X E)
  (ha:PA X (e :: es) t) (hdb:(x==("__debug__" : Str))=false:=by decide) (he:starEach (e :: es) X.env=(false,eval e X.env) :: starEach es X.env:=by rfl) (hpl:(backTo pos (starEach es X.env)).any (·.1)=false:=by rfl) :
  PE X (.Call (.Name x p) (e :: es) [] pos) (tCall sp dvs E t):=by
 intro pins s σ H Q I h
 refine wpAny_Call_Name_kw (ld_glob I hg hm ?_ hdb)
 refine PySem.W.callWith_K (h₀:=X.base) I.ok.mod.kin hk (thn (ha pos pins s σ H _ I h) fun us s1 ⟨vs,H1,I1,r,q⟩=>⟨I1.kIn,?_⟩) he hpl
 exact run_fn F hr hb hd hx I1 r q
theorem pe_call0 (F:FnOk X.prog X.w X.K X.mg X.base CX k f fd ps sp) (hr:Room k X.A) (hg:Gl X x) (hm:X.mg x=some (.ref f)) (hk:PySem.W.keepIn X.K (.ref f)=true) (hb:Binds X.K fd ps ds) (hd:Vals dvs ds) (hx:Passes CX X E)
  (hdb:(x==("__debug__" : Str))=false:=by decide):PE X (.Call (.Name x p) [] [] pos) (tCall sp dvs E tNil):=by
 intro pins s σ H Q I h
 refine wpAny_Call_Name_kw (ld_glob I hg hm ?_ hdb)
 exact PySem.W.callWith_K0 I.kIn hk (run_fn (us:=[]) F hr hb hd hx I .nil h)
end
section
variable {X:Cx} {CX:CXT} {k:Nat} {f C:Addr} {fd:FuncData} {ps ks:List Str} {sp:Sp} {E:XK} {x m:Str} {p pos apos kpos:Pos} {e o:Expr} {es:List Expr} {kws:List Keyword} {te ta:TE} {t tk:TA} {nm:Option Str}
variable {g:List Value→List Value→List Value} {gV:List V→List V→List V}
end
structure FnScope (N P:List Str) (sc:Scope):Prop where
 kind:sc.kind=.function
 co:sc.isCoroutine=false
 gen:sc.isGenerator=false
 nd:N.Nodup
 pre:N.take P.length=P
 par:∀ x∈P,sc.names.lookup x=some .local∨sc.names.lookup x=some .cell
 nofree:∀ y∈sc.names,y.2≠.free
theorem bindL_out {kindOf:Str→Option NameKind} {x:Str}:∀ {binds:List (Str × Value)} {m:Str→Option Value},(∀ v,(x,v)∉binds)→bindL kindOf binds m x=m x
 | [],_,_=>rfl
 | (n,v) :: r,m,h=>by
  unfold bindL
  rw [bindL_out fun w hw=>h w (List.mem_cons_of_mem _ hw)]
  split
  ·have:x≠n:=by rintro rfl; exact h v List.mem_cons_self
   simp [this]
  ·rfl
theorem bindC_out {kindOf:Str→Option NameKind} {x:Str}:∀ {binds:List (Str × Value)} {m:Str→Option Value},(∀ v,(x,v)∉binds)→bindC kindOf binds m x=m x
 | [],_,_=>rfl
 | (n,v) :: r,m,h=>by
  unfold bindC
  rw [bindC_out fun w hw=>h w (List.mem_cons_of_mem _ hw)]
  split
  ·rfl
  ·have:x≠n:=by rintro rfl; exact h v List.mem_cons_self
   simp [this]
theorem bindL_get {kindOf:Str→Option NameKind} {x:Str} {v:Value}:∀ {P:List Str} {vs:List Value} {i:Nat} {m:Str→Option Value},P.Nodup→P[i]? = some x→vs[i]? = some v→kindOf x=some .local→
  bindL kindOf (P.zip vs) m x=some v
 | [],_,_,_,_,h,_,_=>by simp at h
 | _ :: _,[],_,_,_,_,h,_=>by simp at h
 | p :: P,w :: vs,0,m,nd,h1,h2,hk=>by
  simp at h1 h2; subst h1; subst h2
  show bindL kindOf ((p,w) :: P.zip vs) m p=_
  unfold bindL
  rw [bindL_out fun v hv=>(List.nodup_cons.mp nd).1 (List.of_mem_zip hv).1,if_pos hk]
  simp
 | p :: P,w :: vs,i+1,m,nd,h1,h2,hk=>by
  show bindL kindOf ((p,w) :: P.zip vs) m x=_
  unfold bindL
  exact bindL_get (i:=i) (List.nodup_cons.mp nd).2 (by simpa using h1) (by simpa using h2) hk
theorem bindC_get {kindOf:Str→Option NameKind} {x:Str} {v:Value}:∀ {P:List Str} {vs:List Value} {i:Nat} {m:Str→Option Value},P.Nodup→P[i]? = some x→vs[i]? = some v→kindOf x≠some .local→
  bindC kindOf (P.zip vs) m x=some v
 | [],_,_,_,_,h,_,_=>by simp at h
 | _ :: _,[],_,_,_,_,h,_=>by simp at h
 | p :: P,w :: vs,0,m,nd,h1,h2,hk=>by
  simp at h1 h2; subst h1; subst h2
  show bindC kindOf ((p,w) :: P.zip vs) m p=_
  unfold bindC
  rw [bindC_out fun v hv=>(List.nodup_cons.mp nd).1 (List.of_mem_zip hv).1,if_neg hk]
  simp
 | p :: P,w :: vs,i+1,m,nd,h1,h2,hk=>by
  show bindC kindOf ((p,w) :: P.zip vs) m x=_
  unfold bindC
  exact bindC_get (i:=i) (List.nodup_cons.mp nd).2 (by simpa using h1) (by simpa using h2) hk
def start (N:List Str) (vs:List V):St:=vs.map some ++ List.replicate (N.length - vs.length) none
def cxOf (CX:CXT) (P:Program) (w:World) (K:PySem.W.Frag) (mg:Str→Option Value) (base:Heap) (N:List Str) (qual:Str) (scope:Scope) (f:Addr) (cd:Value) (A:Around) (outer:List Env) (s:Shared) (H:Hp) (E:XK):Cx where
 prog:=P
 w:=w
 K:=K
 mg:=mg
 base:=base
 A:=A.deeper (envOfC qual scope s.heap.objs.size f cd)
 N:=N
 s₀:=s
 H₀:=H
 env:=envOfC qual scope s.heap.objs.size f cd
 outer:=outer
 stack:=envOfC qual scope s.heap.objs.size f cd :: outer
 ex:=[]
 calm:=true
 fn:=fun _=>true
 pn:=[]
 xe:=fun e s'=>wpAny (model P w) (A.deeper (envOfC qual scope s.heap.objs.size f cd)) (leaving (envOfC qual scope s.heap.objs.size f cd) e) (fun _ s''=>CX outer H s E e s'') (fun e' s''=>CX outer H s E e' s'') s'
theorem cell_has {sc:Scope} {n:Nat} {x:Str} (h:sc.names.lookup x=some .cell):∃ c,(cellsFrom n sc.names []).lookup x=some c:=by
 have q:=PySem.W.cellsFrom_some sc.names n [] (.inl h)
 exact Option.isSome_iff_exists.mp q
theorem inv_start {CX:CXT} {P:Program} {w:World} {K:PySem.W.Frag} {mg:Str→Option Value} {base:Heap} {N ps:List Str} {qual:Str} {scope:Scope} {f:Addr} {cd:Value} {A:Around} {outer:List Env} {s s1:Shared} {H:Hp} {E:XK} {us:List Value} {vs:List V}
  (S:FnScope N ps scope) (hd:A.handled=none) (e0:Env0 P w K mg base A outer s H) (hl:vs.length=ps.length) (r:Vals vs us)
  (x:InCallC s s.heap.objs.size (bindL (envOfC qual scope s.heap.objs.size f cd).kindOf (ps.zip us) fun _=>none) (cellsFrom (s.heap.objs.size+1) scope.names []) (bindC (envOfC qual scope s.heap.objs.size f cd).kindOf (ps.zip us) fun _=>none) s1) :
  Inv (cxOf CX P w K mg base N qual scope f cd A outer s H E) [] (start N vs) H s1:=by
 have hpl:ps.length≤N.length:=by have:=congrArg List.length S.pre; rw [List.length_take] at this; omega
 obtain ⟨h1,tk,rfl,hk⟩:=x.done
 have noA:∀ b:Addr,b∉(cxOf CX P w K mg base N qual scope f cd A outer s H E).ex:=fun b z=>absurd (show b∈([]:List Addr) from z) (by simp)
 refine ⟨⟨e0.mod,S.kind,rfl,rfl,Nat.le_refl _,fun y z c h1 h2=>?_,fun y hy=>?_,fun y c _ h=>?_,fun _=>hd,Around.frames_deeper e0.frames,.inr ⟨rfl,rfl⟩,fun b z=>absurd z (noA b),e0.bs,e0.bsz,fun b _ _=>noA b,fun b z=>absurd z (noA b),e0.funs,e0.frf⟩,
  rfl,e0.bare,Un.kept hk,⟨_,x.toInCall.ns,fun i y v h1 h2 h3=>?_⟩,fun y c h=>⟨_,x.cell y c h⟩,e0.hok.fresh (Nat.le_refl _),fun y c h=>?_,fun p hp=>absurd (show p∈([]:List (Addr × Obj)) from hp) (by simp),e0.hok.kept hk,?_⟩
 ·exact name_of_addr x.apart (PySem.mem_of_lookup h1) (PySem.mem_of_lookup h2)
 ·have hy:scope.names.lookup y=some .cell∨scope.names.lookup y=some .free:=hy
  rcases hy with hy | hy
  ·exact cell_has hy
  ·exact absurd rfl (S.nofree _ (PySem.mem_of_lookup hy))
 ·exact Nat.le_of_lt (x.above y c (PySem.mem_of_lookup h))
 ·have hi:i < vs.length:=by
   unfold start at h2
   by_cases hi:i < vs.length
   ·exact hi
   ·rw [List.getElem?_append_right (by simpa using hi)] at h2
    rw [List.getElem?_replicate] at h2
    split at h2 <;> cases h2
  have ha:vs[i]? = some v:=by
   unfold start at h2
   rw [List.getElem?_append_left (by simpa using hi),List.getElem?_map] at h2
   cases e:vs[i]? with
   | none=>rw [e] at h2; cases h2
   | some a=>rw [e] at h2; cases h2; rfl
  obtain ⟨u,hu,rv⟩:=r.get ha
  have hp:ps[i]? = some y:=by
   rw [← S.pre,List.getElem?_take_of_lt (by omega)]; exact h1
  have ndP:ps.Nodup:=by rw [← S.pre]; exact S.nd.sublist (List.take_sublist _ _)
  refine ⟨u,rv,?_⟩
  rcases S.par y (List.mem_of_getElem? hp) with k | k
  ·exact .inl ⟨k,bindL_get ndP hp hu k⟩
  ·obtain ⟨c,e⟩:=cell_has (n:=s.heap.objs.size+1) k
   refine .inr ⟨.inl k,c,e,?_⟩
   have q:=x.cell y c e
   rw [bindC_get ndP hp hu (by show scope.names.lookup y≠_; rw [k]; decide)] at q
   exact q
 ·exact e0.hok.fresh (Nat.le_of_lt (x.above y c (PySem.mem_of_lookup h)))
 ·unfold start
  show _=N.length
  rw [List.length_append,List.length_map,List.length_replicate]
  omega
theorem fn_of {CX:CXT} {P:Program} {w:World} {K:PySem.W.Frag} {mg:Str→Option Value} {base:Heap} {k:Nat} {f:Addr} {name qual:Str} {params:Arguments} {body:List Stmt} {scope:Scope} {dV kV doc pm cdv ct oc:Value} {an od:Option Addr}
  {osl:Array (Option Value)} {N ps:List Str} {sp:Sp} (lk:K.lookup f=some ⟨oc,od,.func (PySem.W.fnOf name qual params body scope dV kV doc pm an cdv ct),osl⟩) (hcd:PySem.W.codeIn K cdv qual=true) (S:FnScope N ps scope)
  (len:∀ vs H Q E,sp vs H Q E→vs.length=ps.length)
  (hbody:∀ (A:Around) (outer:List Env) (s:Shared) (H:Hp) (vs:List V) (Q:VK) (E:XK),Room k (A.deeper (envOfC qual scope s.heap.objs.size f cdv))→sp vs H Q E→
   ∃ t,PSs (cxOf CX P w K mg base N qual scope f cdv A outer s H E) body t∧t { nx:=fun _ H'=>Q .non H',rt:=Q } (start N vs) H) :
  FnOk P w K mg base CX (k+1) f (PySem.W.fnOf name qual params body scope dV kV doc pm an cdv ct) ps sp:=by
 refine ⟨len,fun A outer s H args us vs Q E hr e0 hb r hsp=>?_⟩
 have hl:=len _ _ _ _ hsp
 have KX:K.In s.heap:=e0.mod.kin.keeps fun b o e=>(e0.bs b o e).1
 have lim:s.heap.NoLimit:=e0.mod.nolimit.keeps fun b o e=>(e0.bs b o e).1
 have hkind:∀ y∈ps.zip us,scope.names.lookup y.1=some .local∨(scope.names.lookup y.1=some .cell∧((cellsFrom (s.heap.objs.size+1) scope.names []).lookup y.1).isSome=true):=fun ⟨n,v⟩ hy=>by
  rcases S.par n (List.of_mem_zip hy).1 with q | q
  ·exact .inl q
  ·exact .inr ⟨q,PySem.W.cellsFrom_some _ _ _ (.inl q)⟩
 refine codeAny_call_function hr.depth (KX _ _ lk) rfl S.co S.gen rfl (PySem.W.codeRec_of KX hcd) (hb _ _ _ _ ?_)
 refine wpAny_newFunctionEnv_cells S.kind hkind fun env he s1 x=>?_
 subst he
 refine ⟨lim.keeps x.toInCall.keep,codeAny_func ?_⟩
 obtain ⟨t,ht,hq⟩:=hbody A outer s H vs Q E (hr.deeper _) hsp
 have I:Inv (cxOf CX P w K mg base N qual scope f cdv A outer s H E) [] (start N vs) H s1:=inv_start S hr.hd e0 hl r x
 refine wpAny_mono (ht [] s1 (start N vs) H _ I hq) (fun fl s' hs=>?_) fun e s' hs=>hs
 have fin:∀ {σ':St} {H':Hp} {v:V} {u:Value},Inv (cxOf CX P w K mg base N qual scope f cdv A outer s H E) [] σ' H' s'→RelV v u→Q v H'→CE outer P w H s Q u s':=
  fun {σ' H' v u} J rv q=>⟨v,H',J.os,J.bare,J.base,J.hok,rv,q⟩
 cases fl with
 | ret u=>
  obtain ⟨v,σ',H',J,rv,q⟩:=hs
  exact fin J rv q
 | next=>
  obtain ⟨σ',H',J,q⟩:=hs
  exact fin (v:=V.non) (u:=Value.none) J rfl q
 | brk=>
  obtain ⟨_,_,_,q⟩:=hs
  exact False.elim q
 | cont=>
  obtain ⟨_,_,_,q⟩:=hs
  exact False.elim q
end L2
namespace L2
open PySem PySem.Spec PyProof.Rows
section
variable {X:Cx} {x:Str} {p pos:Pos} {e:Expr} {es:List Expr} {t:TA} {id T:String} {r:List V→Hp→VK→Prop}
def tCB (r:List V→Hp→VK→Prop) (t:TA):TE:=fun σ H Q=>t σ H fun vs H1=>r vs H1 Q
theorem pe_callB (hc:CallR X (.builtin id) r) (hg:Gl X x) (hm:X.mg x=none) (hv:bootBuiltins x=some (.builtin id)) (ha:PA X (e :: es) t) (hn:x≠"__name__":=by decide) (hdb:(x==("__debug__" : Str))=false:=by decide)
  (he:starEach (e :: es) X.env=(false,eval e X.env) :: starEach es X.env:=by rfl) (hpl:(backTo pos (starEach es X.env)).any (·.1)=false:=by rfl):PE X (.Call (.Name x p) (e :: es) [] pos) (tCB r t):=by
 intro pins s σ H Q I h
 refine wpAny_Call_Name_kw (ld_blt I hg hm hv ?_ hn hdb)
 exact PyProof.Rows.callWith_builtin1 (thn (ha pos pins s σ H _ I h) fun us s1 ⟨vs,H1,I1,r1,q1⟩=>hc pins s1 σ H1 vs us Q I1 r1 q1) he hpl
theorem pe_callTy (hc:CallR X (.type T) r) (hg:Gl X x) (hm:X.mg x=none) (hv:bootBuiltins x=some (.type T)) (ha:PA X (e :: es) t) (hn:x≠"__name__":=by decide) (hdb:(x==("__debug__" : Str))=false:=by decide)
  (he:starEach (e :: es) X.env=(false,eval e X.env) :: starEach es X.env:=by rfl) (hpl:(backTo pos (starEach es X.env)).any (·.1)=false:=by rfl):PE X (.Call (.Name x p) (e :: es) [] pos) (tCB r t):=by
 intro pins s σ H Q I h
 refine wpAny_Call_Name_kw (ld_blt I hg hm hv ?_ hn hdb)
 exact PyProof.Rows.callWith_type1 (thn (ha pos pins s σ H _ I h) fun us s1 ⟨vs,H1,I1,r1,q1⟩=>hc pins s1 σ H1 vs us Q I1 r1 q1) he hpl
end
end L2
namespace HT
open PySem PyProof.Rows
section
open PySem.SeqAt
open PySem.AutoSeq1 (wpAny_loadPart')
open PySem.MeetsSeq PySem.MeetsSeq2 PySem.MeetsSeq3
end
section
variable {prog:Program} {w:World} {A:Around} {E:Value→Shared→Prop} {s:Shared}
theorem cat_tup {t b:Addr} {vs ws:List Value} {Q:Value→Shared→Prop} (ht:IsTup s.heap t vs.toArray) (hb:IsTup s.heap b ws.toArray) (hv:vs≠[])
  (h1:ws=[]→Q (.ref t) s) (h2:ws≠[]→Q (.ref s.heap.objs.size) { s with heap:=s.heap.push { cls:=.type "tuple",data:=.seq (vs ++ ws).toArray } })
  (hsz:vs.length+ws.length≤sizeLine):wpAny (model prog w) A (binaryOp .Add (.ref t) (.ref b)) Q E s:=by
 obtain ⟨⟨cls,dd,data,sl⟩,ho,hc,n,hd⟩:=id ht
 obtain ⟨⟨cls2,dd2,data2,sl2⟩,ho2,hc2,n2,hd2⟩:=id hb
 simp only at hc hd hc2 hd2
 subst hc hd hc2 hd2
 have e:vs.toArray ++ ws.toArray=(vs ++ ws).toArray:=by simp
 by_cases hw:ws=[]
 ·exact concat_meets ⟨_,ho,rfl⟩ ⟨_,ho2,rfl⟩ noFill_tuple_add seq_tuple_add PySem.F.slot_tuple_add PySem.F.entry_tuple_add (PySem.F.args_tuple_add_2 _ _)
   (tuple_addW1 t b vs.toArray ws.toArray n n2 dd dd2 sl sl2 (by simpa using hv) (by simp [hw])) ⟨ho,ho2,h1 hw⟩
 ·refine concat_meets ⟨_,ho,rfl⟩ ⟨_,ho2,rfl⟩ noFill_tuple_add seq_tuple_add PySem.F.slot_tuple_add PySem.F.entry_tuple_add (PySem.F.args_tuple_add_2 _ _)
   (tuple_addW2 t b vs.toArray ws.toArray n n2 dd dd2 sl sl2 (by simpa using hv) (by simpa using hw) (by rw [List.size_toArray,List.size_toArray]; exact hsz)) ⟨ho,ho2,?_⟩
  rw [e]
  exact h2 hw
def sIx (n d:Nat):Option Int→Nat
 | none=>d
 | some v=>if v < 0 then (v+(n:Int)).toNat else min v.toNat n
theorem sIx_none (n d:Nat):sIx n d none=d:=rfl
theorem sIx_nat (n d k:Nat):sIx n d (some (k:Int))=min k n:=by
 show (if (k:Int) < 0 then ((k:Int)+(n:Int)).toNat else min (k:Int).toNat n)=min k n
 rw [if_neg (by omega),Int.toNat_natCast]
theorem sIx_le (n d:Nat) (hd:d≤n) (o:Option Int):sIx n d o≤n:=by
 cases o with
 | none=>exact hd
 | some v=>
  show (if v < 0 then (v+(n:Int)).toNat else min v.toNat n)≤n
  by_cases hv:v < 0
  ·rw [if_pos hv]; omega
  ·rw [if_neg hv]; exact Nat.min_le_right _ _
theorem clip_eq (v:Int) (n d:Nat):(if v < 0 then max (v+(n:Int)) 0 else min v (n:Int))=((sIx n d (some v):Nat):Int):=by
 show (if v < 0 then max (v+(n:Int)) 0 else min v (n:Int))=(((if v < 0 then (v+(n:Int)).toNat else min v.toNat n):Nat):Int)
 by_cases hv:v < 0
 ·simp only [if_pos hv]; omega
 ·simp only [if_neg hv]; omega
theorem adjust_gen (lo hi:Option Int) (n:Nat):Builtin.Slice.sliceAdjust lo hi 1 (n:Int)=(((sIx n 0 lo:Nat):Int),((sIx n n hi:Nat):Int)):=by
 have h1:¬ ((1:Int) < 0):=by omega
 unfold Builtin.Slice.sliceAdjust
 simp only [h1,if_false]
 refine Prod.ext ?_ ?_
 ·cases lo with
  | none=>rfl
  | some v=>exact clip_eq v n 0
 ·cases hi with
  | none=>rfl
  | some v=>exact clip_eq v n n
theorem places_gen (i j:Nat):Builtin.Slice.slicePlaces (i:Int) (j:Int) 1=j - i:=by
 unfold Builtin.Slice.slicePlaces
 have h1:(1:Int) > 0:=by omega
 simp only [h1,if_true,Int.ediv_one]
 split <;> omega
theorem slicePart_ {v:Value} {o:Option Int} {Q:Option Int→Shared→Prop} (p:IsPart v o) (h:Q o s):wpAny (model prog w) A (Builtin.Slice.slicePartIndex v) Q E s:=by
 cases p with
 | none=>exact slicePart_none h
 | int i t=>exact slicePart_int h
theorem sliceApplied_gen {sl:Addr} {vl vu:Value} {lo hi:Option Int} {n:Nat} {Q:Int × Int × Nat→Shared→Prop} (hs:s.heap.IsSliceOf sl vl vu .none) (pl:IsPart vl lo) (pu:IsPart vu hi)
  (h:Q (((sIx n 0 lo:Nat):Int),1,sIx n n hi - sIx n 0 lo) s):wpAny (model prog w) A (Builtin.Slice.sliceApplied (.ref sl) (pure (n:Int))) Q E s:=by
 obtain ⟨os,hos,hcs,hds⟩:=id hs
 unfold Builtin.Slice.sliceApplied Builtin.Slice.sliceFields
 refine wpAny_bind (wpAny_bind (wpAny_field hos hds (x:=vl) rfl (wpAny_bind (wpAny_field hos hds (x:=vu) rfl (wpAny_bind (wpAny_field hos hds (x:=.none) rfl (wpAny_pure ?_)))))))
 refine wpAny_bind (slicePart_none ?_)
 show wpAny _ _ (if ((1:Int)==0)=true then _ else _) _ _ s
 rw [if_neg (by decide)]
 refine wpAny_bind (slicePart_ pl (wpAny_bind (slicePart_ pu (wpAny_bind (wpAny_pure ?_)))))
 show wpAny _ _ (match Builtin.Slice.sliceAdjust lo hi 1 (n:Int) with | (lo,hi)=>pure (lo,(1:Int),Builtin.Slice.slicePlaces lo hi 1)) _ _ s
 rw [adjust_gen lo hi n]
 show wpAny _ _ (pure (((sIx n 0 lo:Nat):Int),(1:Int),Builtin.Slice.slicePlaces ((sIx n 0 lo:Nat):Int) ((sIx n n hi:Nat):Int) 1)) _ _ s
 rw [places_gen]
 exact wpAny_pure h
theorem pick_gen (xs:Array Value) (i k:Nat):((List.range k).filterMap fun (m:Nat)=>xs[((i:Int)+(m:Int) * 1).toNat]?).toArray=((xs.toList.drop i).take k).toArray:=by
 have e:(fun (m:Nat)=>xs[((i:Int)+(m:Int) * 1).toNat]?)=fun m=>xs[i+m]?:=by
  funext m
  have:((i:Int)+(m:Int) * 1).toNat=i+m:=by omega
  rw [this]
 rw [e]
 have:=pick_run xs i k
 rw [List.filterMap_map] at this
 have e2:((fun x=>xs[x]?) ∘ fun x=>i+x)=fun m=>xs[i+m]?:=rfl
 rw [e2] at this
 rw [this]
theorem getItem_tuple_cut {t sl:Addr} {items:Array Value} {vl vu:Value} {lo hi:Option Int} {Q:Value→Shared→Prop} (ht:IsTup s.heap t items) (hs:s.heap.IsSliceOf sl vl vu .none) (pl:IsPart vl lo) (pu:IsPart vu hi)
  (hw:¬ (sIx items.size 0 lo=0∧sIx items.size items.size hi=items.size))
  (h:Q (.ref s.heap.objs.size) { s with heap:=s.heap.push { cls:=.type "tuple",data:=.seq ((items.toList.drop (sIx items.size 0 lo)).take (sIx items.size items.size hi - sIx items.size 0 lo)).toArray } })
  (hsz:items.size≤sizeLine):wpAny (model prog w) A (getItem (.ref t) (.ref sl)) Q E s:=by
 have htake:sizeOk (.seq ((items.toList.drop (sIx items.size 0 lo)).take (sIx items.size items.size hi - sIx items.size 0 lo)).toArray):=by
  show ((items.toList.drop (sIx items.size 0 lo)).take (sIx items.size items.size hi - sIx items.size 0 lo)).toArray.size≤sizeLine
  rw [List.size_toArray,List.length_take,List.length_drop,Array.length_toList]
  omega
 have hj:sIx items.size items.size hi≤items.size:=sIx_le _ _ (Nat.le_refl _) hi
 obtain ⟨os,hos,hcs,hds⟩:=id hs
 have hTs:s.TypeIs (.ref sl) "slice":=⟨os,hos,hcs⟩
 unfold getItem
 try with_reducible refine wpAny_holding ?_
 first | refine wpAny_bind (wpAny_pure ?_) | skip
 refine wpAny_bind (wpAny_sequenceKey ht.typeIs (by decide) ?_)
 refine wpAny_bind (wpAny_callSpecial?_slot (name:=Str.ofString "__getitem__") ht.typeIs PyProof.Rows.slot_tuple_getitem
  (wpAny_call_entry PyProof.Rows.slot_tuple_getitem ht.typeIs entry_tuple_getitem ?_ (args_tuple_getitem _ _)))
 show wpAny _ _ (Builtin.Tuple.tupleItemsOf (.ref t) >>= _) _ _ s
 refine wpAny_bind (tupleItemsOf_ ht ?_)
 refine wpAny_bind (wpAny_typeOf hTs ?_)
 rw [if_pos (by decide)]
 refine wpAny_bind (sliceApplied_gen hs pl pu ?_)
 have hno:¬ ((((sIx items.size 0 lo:Nat):Int)==0 && (1:Int)==1 && (sIx items.size items.size hi - sIx items.size 0 lo)==items.size)=true):=by
  intro q
  rw [Bool.and_eq_true,Bool.and_eq_true] at q
  have q1:((sIx items.size 0 lo:Nat):Int)=0:=eq_of_beq q.1.1
  have q2:sIx items.size items.size hi - sIx items.size 0 lo=items.size:=eq_of_beq q.2
  exact hw ⟨by omega,by omega⟩
 show wpAny _ _ (if (((sIx items.size 0 lo:Nat):Int)==0 && (1:Int)==1 && (sIx items.size items.size hi - sIx items.size 0 lo)==items.size)=true then _ else _) _ _ s
 rw [if_neg hno,pick_gen]
 first
  | exact wpAny_bind (m:=Builtin.Tuple.tupleExact _) (wpAny_newObj_type (wpAny_pure ⟨_,rfl,wpAny_pure h⟩) htake)
  | exact wpAny_bind (m:=Builtin.Tuple.tupleExact _) (wpAny_newObj_type (wpAny_bind (wpAny_pure (wpAny_pure ⟨_,rfl,wpAny_pure h⟩))) htake)
  | exact wpAny_bind (wpAny_bind (m:=Builtin.Tuple.tupleExact _) (wpAny_newObj_type (wpAny_pure (wpAny_pure ⟨_,rfl,wpAny_pure h⟩)) htake))
  | exact wpAny_bind (wpAny_bind (m:=Builtin.Tuple.tupleExact _) (wpAny_newObj_type (wpAny_pure ⟨_,rfl,wpAny_pure h⟩) htake))
end
end HT
namespace L2
open PySem PySem.Spec PyProof.Rows
abbrev TO:=St→Hp→(Option Int→Hp→Prop)→Prop
def PO (X:Cx) (e:Option Expr) (t:TO):Prop:=
 ∀ (pins:List (Addr × Obj)) (s:Shared) (σ:St) (H:Hp) (Q:Option Int→Hp→Prop),Inv X pins σ H s→t σ H Q→
  wpAny (model X.prog X.w) X.A (evalPart e X.env) (fun u s'=>∃ o H',Inv X pins σ H' s'∧IsPart u o∧Q o H') X.xe s
def tNoPart:TO:=fun _ H Q=>Q none H
inductive tPartI (Q:Option Int→Hp→Prop) (x:V) (H1:Hp):Prop
 | mk (i:_) (h1:x=.int i) (h2:Q (some i) H1):tPartI Q x H1
def tPart (t:TE):TO:=fun σ H Q=>t σ H fun x H1=>tPartI Q x H1
section
variable {X:Cx} {e:Expr} {te:TE} {lo hi:Option Expr} {tl th:TO} {pos p2:Pos}
theorem po_none:PO X none tNoPart:=by
 intro pins s σ H Q I h
 rw [evalPart_none]
 exact wpAny_pure ⟨none,H,I,.none,h⟩
theorem po_some (h:PE X e te):PO X (some e) (tPart te):=by
 intro pins s σ H Q I hw
 rw [evalPart_some]
 refine thn (h pins s σ H _ I hw) fun u s1 ⟨x,H1,I1,r1,q1⟩=>?_
 obtain ⟨i,rfl,q⟩:=q1
 obtain ⟨t,rfl⟩:=r1
 exact ⟨some i,H1,I1,.int i t,q⟩
def SlR (X:Cx) (r:V→Option Int→Option Int→Hp→VK→Prop):Prop:=
 ∀ (pins:List (Addr × Obj)) (s:Shared) (σ:St) (H:Hp) (x:V) (v vl vu:Value) (lo hi:Option Int) (sl:Addr) (Q:VK),Inv X pins σ H s→RelV x v→s.heap.IsSliceOf sl vl vu .none→IsPart vl lo→IsPart vu hi→r x lo hi H Q→
  ∃ T id,typeLookup (.type T) "__getitem__" = pure (some (.builtin id))∧s.TypeIs v T∧wpAny (model X.prog X.w) X.A (getItem v (.ref sl)) (EP X pins σ Q) X.xe s
def tSl (r:V→Option Int→Option Int→Hp→VK→Prop) (te:TE) (tl th:TO):TE:=fun σ H Q=>te σ H fun x H1=>tl σ H1 fun l H2=>th σ H2 fun u H3=>r x l u H3 Q
theorem pe_slice {r:V→Option Int→Option Int→Hp→VK→Prop} (hr:SlR X r) (he:PE X e te) (hl:PO X lo tl) (hu:PO X hi th):PE X (.Subscript e (.Slice lo hi none p2) pos) (tSl r te tl th):=by
 intro pins s σ H Q I h
 refine Subscript_ (thn (he pins s σ H _ I h) fun v s1 ⟨x,H1,I1,r1,q1⟩=>?_)
 refine wpAny_Slice (thn (hl pins s1 σ H1 _ I1 q1) fun vl s2 ⟨l,H2,I2,pl,q2⟩=>thn (hu pins s2 σ H2 _ I2 q2) fun vu s3 ⟨u,H3,I3,pu,q3⟩=>?_)
 rw [evalPart_none]
 refine wpAny_pure ?_
 have I4:Inv X pins σ H3 { s3 with heap:=s3.heap.push { cls:=.type "slice",data:=.fields #[vl,vu,.none] } }:=I3.kept (t':=s3.toks) fun b ob q=>Heap.get?_push_of_some _ q
 obtain ⟨T,id,hT,ht,hg⟩:=hr pins { s3 with heap:=s3.heap.push { cls:=.type "slice",data:=.fields #[vl,vu,.none] } } σ H3 x v vl vu l u s3.heap.objs.size Q I4 r1 (Heap.IsSliceOf.new ..) pl pu q3
 show wpAny (model X.prog X.w) X.A (subscriptTail e (.Slice lo hi none p2) v (.ref s3.heap.objs.size)) (EP X pins σ Q) X.xe { s3 with heap:=s3.heap.push { cls:=.type "slice",data:=.fields #[vl,vu,.none] } }
 exact tail_any (ops:=[.ref s3.heap.objs.size,v]) ht hT hg (by with_unfolding_all rfl)
def cutV (xs:List V) (lo hi:Option Int):List V:=(xs.drop (HT.sIx xs.length 0 lo)).take (HT.sIx xs.length xs.length hi - HT.sIx xs.length 0 lo)
theorem cutV_length (xs:List V) (lo hi:Option Int):(cutV xs lo hi).length≤xs.length:=by
 unfold cutV
 rw [List.length_take,List.length_drop]
 omega
inductive rSlTI (K:PySem.W.Frag) (x:V) (lo:Option Int) (hi:Option Int) (H:Hp) (Q:VK):Prop
 | mk (a xs:_) (h1:x=.ref a) (h2:SqT K H a xs) (h3:¬ (HT.sIx xs.length 0 lo=0∧HT.sIx xs.length xs.length hi=xs.length)) (h4:∀ p,H p=none→Q (.ref p) (upd H p (.tup (cutV xs lo hi)))):rSlTI K x lo hi H Q
def rSlT (K:PySem.W.Frag):V→Option Int→Option Int→Hp→VK→Prop:=fun x lo hi H Q=>rSlTI K x lo hi H Q
theorem sl_tup:SlR X (rSlT X.K):=by
 intro pins s σ H x v vl vu lo hi sl Q I rx hs pl pu h
 obtain ⟨a,xs,rfl,hx,hw,q⟩:=h
 cases rx
 obtain ⟨its,r,ht,hz⟩:=I.tuple hx
 have hlen:its.toArray.size=xs.length:=by rw [List.size_toArray]; exact r.length.symm
 refine ⟨"tuple",_,PyProof.Rows.slot_tuple_getitem.lookup,ht.typeIs,?_⟩
 refine HT.getItem_tuple_cut ht hs pl pu (by rw [hlen]; exact hw) ?_ (by rw [hlen]; exact hz)
 rw [hlen]
 refine ⟨.ref s.heap.objs.size,_,I.laid (t':=s.toks) (o:=.tup (cutV xs lo hi)) (fun b ob q=>Heap.get?_push_of_some _ q) (Nat.le_refl _) ?_,rfl,q _ (I.hok.fresh (Nat.le_refl _))⟩
 exact ⟨Nat.le_trans (cutV_length xs lo hi) hz,_,(r.drop (HT.sIx xs.length 0 lo)).take (HT.sIx xs.length xs.length hi - HT.sIx xs.length 0 lo),IsTup.new _ _⟩
inductive rCatTI (K:PySem.W.Frag) (x:V) (y:V) (H:Hp) (Q:VK):Prop
 | mk (a b xs ys:_) (h1:x=.ref a) (h2:y=.ref b) (h3:SqT K H a xs) (h4:SqT K H b ys) (h5:xs≠[]) (h6:xs.length+ys.length≤sizeLine) (h7:(ys=[]→Q (.ref a) H)) (h8:(ys≠[]→∀ p,H p=none→Q (.ref p) (upd H p (.tup (xs ++ ys))))):rCatTI K x y H Q
def rCatT (K:PySem.W.Frag):R2:=fun x y H Q=>rCatTI K x y H Q
theorem Vals.nil_iff {xs:List V} {us:List Value} (r:Vals xs us):us=[]↔xs=[]:=by
 cases r with
 | nil=>simp
 | cons _ _=>simp
theorem op_catT:OpR X (binaryOp .Add) (rCatT X.K):=by
 intro pins s σ H x y v u Q I rx ry h
 obtain ⟨a,b,xs,ys,rfl,rfl,ha,hb,hx,hz,q1,q2⟩:=h
 cases rx
 cases ry
 obtain ⟨its,r1,p1,_⟩:=I.tuple ha
 obtain ⟨its2,r2,p2,_⟩:=I.tuple hb
 refine HT.cat_tup p1 p2 (fun z=>hx (r1.nil_iff.mp z)) (fun z=>⟨.ref a,H,I,rfl,q1 (r2.nil_iff.mp z)⟩) (fun z=>?_) (by rw [← r1.length,← r2.length]; exact hz)
 refine ⟨.ref s.heap.objs.size,_,I.laid (t':=s.toks) (o:=.tup (xs ++ ys)) (fun b ob q=>Heap.get?_push_of_some _ q) (Nat.le_refl _) ?_,rfl,q2 (fun w=>z (r2.nil_iff.mpr w)) _ (I.hok.fresh (Nat.le_refl _))⟩
 exact ⟨by rw [List.length_append]; exact hz,_,r1.append r2,IsTup.new _ _⟩
end
end L2
namespace L2
open PySem PySem.Spec PyProof.Rows
def ixN (n:Nat) (i:Int):Option Nat:=if 0≤i then (if i < n then some i.toNat else none) else if -(n:Int)≤i then some (i+n).toNat else none
def atI {α:Type} (xs:List α) (i:Int):Option α:=(ixN xs.length i).bind fun j=>xs[j]?
theorem ixN_seq {n:Nat} {i:Int} {j:Nat} (h:ixN n i=some j):seqIndex? i n=some j∧j < n∧-(n:Int)≤i∧i < n:=by
 unfold ixN at h
 by_cases h0:0≤i
 ·rw [if_pos h0] at h
  by_cases h1:i < n
  ·rw [if_pos h1] at h
   have e:i.toNat=j:=Option.some.inj h
   exact ⟨by rw [seqIndex_of h0 h1,e],by omega,by omega,h1⟩
  ·rw [if_neg h1] at h; cases h
 ·rw [if_neg h0] at h
  by_cases h1 : -(n:Int)≤i
  ·rw [if_pos h1] at h
   have e:(i+n).toNat=j:=Option.some.inj h
   exact ⟨by rw [seqIndex_neg (by omega) h1,e],by omega,h1,by omega⟩
  ·rw [if_neg h1] at h; cases h
theorem atI_get {α:Type} {xs:List α} {i:Int} {v:α} (h:atI xs i=some v):∃ j,seqIndex? i xs.length=some j∧xs[j]? = some v∧j < xs.length∧-(xs.length:Int)≤i∧i < xs.length:=by
 unfold atI at h
 cases e:ixN xs.length i with
 | none=>rw [e] at h; cases h
 | some j=>
  rw [e] at h
  obtain ⟨h1,h2,h3,h4⟩:=ixN_seq e
  exact ⟨j,h1,h,h2,h3,h4⟩
theorem atI_nat {α:Type} {xs:List α} {j:Nat} {v:α} (h:xs[j]? = some v):atI xs (j:Int)=some v:=by
 have hj:j < xs.length:=(List.getElem?_eq_some_iff.mp h).1
 have e:ixN xs.length (j:Int)=some j:=by
  unfold ixN
  rw [if_pos (by omega),if_pos (by omega)]; simp
 unfold atI; rw [e]; exact h
def PlainIx (b:Expr):Prop:=∀ o i,subscripted b false o i=operate [o,i] (getItem o i)
def IxR (X:Cx) (r:R2):Prop:=
 ∀ (value slice:Expr) (pins:List (Addr × Obj)) (s:Shared) (σ:St) (H:Hp) (x y:V) (v u:Value) (Q:VK),Inv X pins σ H s→RelV x v→RelV y u→r x y H Q→
  subscripted slice false v u=operate [v,u] (getItem v u)→wpAny (model X.prog X.w) X.A (subscriptTail value slice v u) (EP X pins σ Q) X.xe s
def MtR (X:Cx) (id:String) (r:V→List V→Hp→VK→Prop):Prop:=
 ∀ (pins:List (Addr × Obj)) (s:Shared) (σ:St) (H:Hp) (x:V) (xs:List V) (v:Value) (us:List Value) (Q:VK),Inv X pins σ H s→RelV x v→Vals xs us→r x xs H Q→
  wpAny (model X.prog X.w) X.A (call (.builtin id) (v :: us)) (EP X pins σ Q) X.xe s
section
variable {X:Cx} {a b:Expr} {ta tb:TE} {pos:Pos}
theorem pe_ix {r:R2} (hr:IxR X r) (ha:PE X a ta) (hb:PE X b tb) (hs:PlainIx b):PE X (.Subscript a b pos) (tOp r ta tb):=by
 intro pins s σ H Q I h
 exact Subscript_ (binT ha hb I h fun v u s2 x y H2 I2 rx ry q=>hr a b pins s2 σ H2 x y v u Q I2 rx ry q (hs _ _))
inductive rIxLI (K:PySem.W.Frag) (x:V) (y:V) (H:Hp) (Q:VK):Prop
 | mk (p xs i v:_) (h1:x=.ref p) (h2:y=.int i) (h3:SqL K H p xs) (h4:atI xs i=some v) (h5:Q v H):rIxLI K x y H Q
def rIxL (K:PySem.W.Frag):R2:=fun x y H Q=>rIxLI K x y H Q
inductive rIxTI (K:PySem.W.Frag) (x:V) (y:V) (H:Hp) (Q:VK):Prop
 | mk (p xs i v:_) (h1:x=.ref p) (h2:y=.int i) (h3:SqT K H p xs) (h4:atI xs i=some v) (h5:Q v H):rIxTI K x y H Q
def rIxT (K:PySem.W.Frag):R2:=fun x y H Q=>rIxTI K x y H Q
inductive rIxSI (x:V) (y:V) (H:Hp) (Q:VK):Prop
 | mk (z i c:_) (h1:x=.str z) (h2:y=.int i) (h3:z.length≤sizeLine) (h4:atI z.cps.toList i=some c) (h5:Q (.str ⟨#[c]⟩) H):rIxSI x y H Q
def rIxS:R2:=fun x y H Q=>rIxSI x y H Q
theorem ix_list:IxR X (rIxL X.K):=by
 intro value slice pins s σ H x y v u Q I rx ry h hs
 obtain ⟨p,xs,i,z,rfl,rfl,hq,he,q⟩:=h
 cases rx
 obtain ⟨t,rfl⟩:=ry
 obtain ⟨its,r,pl,hz⟩:=I.list hq
 obtain ⟨j,h1,h2,h3,h4,h5⟩:=atI_get he
 obtain ⟨w,ew,rw'⟩:=r.get h2
 have hl:=r.length
 have hn:=line63
 have fin:EP X pins σ Q w s:=⟨z,H,I,rw',q⟩
 by_cases h0:0≤i
 ·have hj:i.toNat=j:=by
   rw [seqIndex_of h0 h5] at h1
   exact Option.some.inj h1
  exact item_listR pl.isList h0 (by omega) (by rw [hj]; simpa using ew) fin hs
 ·have hj:(i+(its.toArray.size:Int)).toNat=j:=by
   rw [seqIndex_neg (by omega) h4] at h1
   rw [List.size_toArray,← hl]
   exact Option.some.inj h1
  exact subscriptTail_builtinR (x:=w) pl.isList.typeIs slot_list_getitem.lookup
   (wpAny_getItem_list_neg (Q:=fun r s'=>r=w∧EP X pins σ Q r s') pl.isList (by omega) (by rw [List.size_toArray] <;> omega) (by omega) (by rw [hj]; simpa using ew) ⟨rfl,fin⟩) hs
theorem ix_tup:IxR X (rIxT X.K):=by
 intro value slice pins s σ H x y v u Q I rx ry h hs
 obtain ⟨p,xs,i,z,rfl,rfl,hq,he,q⟩:=h
 cases rx
 obtain ⟨t,rfl⟩:=ry
 obtain ⟨its,r,pl,hz⟩:=I.tuple hq
 obtain ⟨j,h1,h2,h3,h4,h5⟩:=atI_get he
 obtain ⟨w,ew,rw'⟩:=r.get h2
 have hl:=r.length
 have hn:=line63
 have fin:EP X pins σ Q w s:=⟨z,H,I,rw',q⟩
 exact subscriptTail_builtinR (x:=w) pl.typeIs slot_tuple_getitem.lookup
  (getItem_tuple (j:=j) (Q:=fun r s'=>r=w∧EP X pins σ Q r s') pl (by omega) (by omega) (by rw [List.size_toArray,← hl]; exact h1) (by simpa using ew) ⟨rfl,fin⟩) hs
theorem ix_str:IxR X rIxS:=by
 intro value slice pins s σ H x y v u Q I rx ry h hs
 obtain ⟨z,i,c,rfl,rfl,hz,he,q⟩:=h
 obtain ⟨t,rfl⟩:=rx
 obtain ⟨t',rfl⟩:=ry
 obtain ⟨j,h1,h2,h3,h4,h5⟩:=atI_get he
 have hl:z.cps.toList.length=z.length:=by simp [Str.length]
 rw [hl] at h1 h4 h5
 have hn:=line63
 exact tail_any (typeIs_str s z t) slot_str_getitem.lookup (getItem_str (c:=c) (by
  have e1:decide (i < -(2 ^ 63:Int))=false:=decide_eq_false (by omega)
  have e2:decide (i ≥ 2 ^ 63)=false:=decide_eq_false (by omega)
  rw [e1,e2,Bool.or_false]) (by rw [h1]; simpa using h2) ⟨.str ⟨#[c]⟩,H,I.tok _,⟨_,rfl⟩,q⟩) hs
theorem mapSeq_set (its:List Value) (n j:Nat) (u:Value):Obj.mapSeq (·.setIfInBounds j u) { cls:=.type "list",data:=.seq its.toArray n } = { cls:=.type "list",data:=.seq (its.set j u).toArray n }:=by
 simp [Obj.mapSeq]
theorem Inv.lst {pins:List (Addr × Obj)} {σ:St} {H:Hp} {s:Shared} {p:Addr} {xs:List V} (I:Inv X pins σ H s) (h:H p=some (.lst xs)) :
  ∃ (its:List Value) (n:Nat),Vals xs its∧s.heap.get? p=some { cls:=.type "list",data:=.seq its.toArray n }∧xs.length≤sizeLine:=by
 obtain ⟨z,its,n,r,e⟩:=I.hok p _ h
 exact ⟨its,n,r,e,z⟩
theorem Inv.lstUpd {pins:List (Addr × Obj)} {σ:St} {H:Hp} {s:Shared} {p:Addr} {xs ys:List V} {its its':List Value} {n n':Nat} {f:Obj→Obj} (I:Inv X pins σ H s) (h:H p=some (.lst xs))
  (ho:s.heap.get? p=some { cls:=.type "list",data:=.seq its.toArray n }) (hf:f { cls:=.type "list",data:=.seq its.toArray n } = { cls:=.type "list",data:=.seq its'.toArray n' }) (r:Vals ys its') (hz:ys.length≤sizeLine) (t:Nat) :
  Inv X pins σ (upd H p (.lst ys)) { s with heap:=s.heap.update p f,toks:=t }:=by
 have e:(s.heap.update p f).get? p=some { cls:=.type "list",data:=.seq its'.toArray n' }:=by
  rw [Heap.get?_update_self f ho (by rw [hf] <;> rfl),hf]
 refine I.write (x:=p) (e:=p) (by rw [h]; trivial) (.inl rfl) (fun b u hb q=>(Heap.get?_update_other _ _ (Ne.symm hb)).trans q) ⟨_,e⟩ ?_
 exact ⟨hz,its',n',r,e⟩
inductive rSetLI (o:V) (i:V) (v:V) (H:Hp) (Q:(Hp→Prop)):Prop
 | mk (p xs k j:_) (h1:o=.ref p) (h2:i=.int k) (h3:H p=some (.lst xs)) (h4:ixN xs.length k=some j) (h5:Q (upd H p (.lst (xs.set j v)))):rSetLI o i v H Q
def rSetL:V→V→V→Hp→(Hp→Prop)→Prop:=fun o i v H Q=>rSetLI o i v H Q
theorem set_list:PSet X rSetL:=by
 intro pins s σ H o i v ov iv u Q I ro ri rv h
 obtain ⟨p,xs,k,j,rfl,rfl,hp,hj,q⟩:=h
 cases ro
 obtain ⟨t,rfl⟩:=ri
 obtain ⟨its,n,r,ho,hz⟩:=I.lst hp
 obtain ⟨h1,h2,h3,h4⟩:=ixN_seq hj
 have hl:=r.length
 have hn:=line63
 have I':Inv X pins σ (upd H p (.lst (xs.set j v))) { s with heap:=s.heap.update p (Obj.mapSeq (·.setIfInBounds j u)) }:=
  I.lstUpd hp ho (mapSeq_set its n j u) (r.set rv j) (by rw [List.length_set]; exact hz) s.toks
 by_cases h0:0≤k
 ·have hk:k.toNat=j:=by
   rw [seqIndex_of h0 h4] at h1
   exact Option.some.inj h1
  exact PySem.W.ki_setAt ho h0 (by omega) (by rw [List.size_toArray,← hl]; exact h4) (by rw [hk]; exact ⟨_,I',q⟩)
 ·have hk:(k+(its.toArray.size:Int)).toNat=j:=by
   rw [seqIndex_neg (by omega) h3] at h1
   rw [List.size_toArray,← hl]
   exact Option.some.inj h1
  exact PySem.W.ki_setBack ho (by omega) (by rw [List.size_toArray,← hl]; exact h3) (by omega) (by rw [hk]; exact ⟨_,I',q⟩)
theorem slice_bounds (lo hi:Option Int) (n:Nat):(sliceBounds lo hi none n).1=((HT.sIx n 0 lo:Nat):Int)∧(sliceBounds lo hi none n).2.1=((HT.sIx n n hi:Nat):Int)∧(sliceBounds lo hi none n).2.2=1:=by
 refine ⟨?_,?_,rfl⟩
 ·cases lo with
  | none=>simp [sliceBounds,HT.sIx]
  | some i=>
   simp only [sliceBounds,HT.sIx,Option.getD_none,show (1:Int) > 0 by decide,if_true]
   by_cases h:i < 0
   ·simp only [h,if_true] <;> omega
   ·simp only [h,if_false] <;> omega
 ·cases hi with
  | none=>simp [sliceBounds,HT.sIx]
  | some i=>
   simp only [sliceBounds,HT.sIx,Option.getD_none,show (1:Int) > 0 by decide,if_true]
   by_cases h:i < 0
   ·simp only [h,if_true] <;> omega
   ·simp only [h,if_false] <;> omega
theorem slicePick_cut (its:List Value) (lo hi:Option Int):slicePick its.toArray lo hi none=((its.drop (HT.sIx its.length 0 lo)).take (HT.sIx its.length its.length hi - HT.sIx its.length 0 lo)).toArray:=by
 obtain ⟨h1,h2,h3⟩:=slice_bounds lo hi its.toArray.size
 unfold slicePick
 rw [h1,h2,h3]
 simp only [sliceRange_one,pick_run,List.size_toArray] <;> rfl
inductive rSlLI (K:PySem.W.Frag) (x:V) (lo:Option Int) (hi:Option Int) (H:Hp) (Q:VK):Prop
 | mk (a xs:_) (h1:x=.ref a) (h2:SqL K H a xs) (h3:∀ p,H p=none→Q (.ref p) (upd H p (.lst (cutV xs lo hi)))):rSlLI K x lo hi H Q
def rSlL (K:PySem.W.Frag):V→Option Int→Option Int→Hp→VK→Prop:=fun x lo hi H Q=>rSlLI K x lo hi H Q
theorem sl_list:SlR X (rSlL X.K):=by
 intro pins s σ H x v vl vu lo hi sl Q I rx hs pl pu h
 obtain ⟨a,xs,rfl,hx,q⟩:=h
 cases rx
 obtain ⟨its,r,ht,hz⟩:=I.list hx
 have hlen:=r.length
 refine ⟨"list",_,slot_list_getitem.lookup,ht.isList.typeIs,?_⟩
 refine wpAny_getItem_list_slice ht.isList hs pl pu .none (by simp) ?_ (by rw [List.size_toArray] <;> omega)
 rw [slicePick_cut,← hlen]
 refine ⟨.ref s.heap.objs.size,_,I.laid (t':=s.toks) (o:=.lst (cutV xs lo hi)) (fun b ob q=>Heap.get?_push_of_some _ q) (Nat.le_refl _) ?_,rfl,q _ (I.hok.fresh (Nat.le_refl _))⟩
 exact ⟨Nat.le_trans (cutV_length xs lo hi) hz,_,0,(r.drop (HT.sIx xs.length 0 lo)).take (HT.sIx xs.length xs.length hi - HT.sIx xs.length 0 lo),Heap.get?_push_size _ rfl⟩
def flatV:V→Bool
 | .non=>true
 | .bl _=>true
 | .int _=>true
 | .str _=>true
 | _=>false
def eqV:V→V→Bool
 | .non,.non=>true
 | .bl a,.bl b=>a==b
 | .bl a,.int b=>(if a then 1 else 0)==b
 | .int a,.bl b=>a==(if b then 1 else 0)
 | .int a,.int b=>a==b
 | .str a,.str b=>a==b
 | _,_=>false
theorem eqAt_V {A:Around} {s:Shared} {y x:V} {u v:Value} (ry:RelV y u) (rx:RelV x v) (fy:flatV y=true) (fx:flatV x=true):SeqAt.EqAt A s u v (eqV y x):=by
 cases y with
 | non=>
  cases ry
  cases x with
  | non=>cases rx; exact SeqAt.EqAt.same _
  | bl b=>cases rx; exact SeqAt.EqAt.none_bool b
  | int b=>obtain ⟨t,rfl⟩:=rx; exact SeqAt.EqAt.none_int b t
  | str b=>obtain ⟨t,rfl⟩:=rx; exact SeqAt.EqAt.none_str b t
  | _=>exact absurd (show false=true from fx) Bool.false_ne_true
 | bl a=>
  cases ry
  cases x with
  | non=>cases rx; exact SeqAt.EqAt.bool_none a
  | bl b=>cases rx; exact SeqAt.EqAt.bool_bool a b
  | int b=>obtain ⟨t,rfl⟩:=rx; exact SeqAt.EqAt.bool_int a b t
  | str b=>obtain ⟨t,rfl⟩:=rx; exact SeqAt.EqAt.bool_str a b t
  | _=>exact absurd (show false=true from fx) Bool.false_ne_true
 | int a=>
  obtain ⟨t',rfl⟩:=ry
  cases x with
  | non=>cases rx; exact SeqAt.EqAt.int_none a t'
  | bl b=>cases rx; exact SeqAt.EqAt.int_bool a t' b
  | int b=>obtain ⟨t,rfl⟩:=rx; exact SeqAt.EqAt.int_int a t' b t
  | str b=>obtain ⟨t,rfl⟩:=rx; exact SeqAt.EqAt.int_str a t' b t
  | _=>exact absurd (show false=true from fx) Bool.false_ne_true
 | str a=>
  obtain ⟨t',rfl⟩:=ry
  cases x with
  | non=>cases rx; exact SeqAt.EqAt.str_none a t'
  | bl b=>cases rx; exact SeqAt.EqAt.str_bool a t' b
  | int b=>obtain ⟨t,rfl⟩:=rx; exact SeqAt.EqAt.str_int a t' b t
  | str b=>obtain ⟨t,rfl⟩:=rx; exact SeqAt.EqAt.str_str a t' b t
  | _=>exact absurd (show false=true from fx) Bool.false_ne_true
 | _=>exact absurd (show false=true from fy) Bool.false_ne_true
def eqU (x:V) (u:Value):Bool:=match u with
 | .none=>eqV .non x
 | .bool b=>eqV (.bl b) x
 | .int i _=>eqV (.int i) x
 | .str z _=>eqV (.str z) x
 | _=>false
theorem eqU_of {x y:V} {u:Value} (r:RelV y u) (f:flatV y=true):eqU x u=eqV y x:=by
 cases y with
 | non=>cases r; rfl
 | bl b=>cases r; rfl
 | int i=>obtain ⟨t,rfl⟩:=r; rfl
 | str z=>obtain ⟨t,rfl⟩:=r; rfl
 | _=>exact absurd (show false=true from f) Bool.false_ne_true
theorem any_eqU {x:V}:∀ {xs:List V} {us:List Value},Vals xs us→xs.all flatV=true→us.any (eqU x)=xs.any fun y=>eqV y x
 | _,_,.nil,_=>rfl
 | y :: xs,u :: us,.cons r t,f=>by
  rw [List.all_cons,Bool.and_eq_true] at f
  rw [List.any_cons,List.any_cons,eqU_of r f.1,any_eqU t f.2]
theorem mem_eqAt {A:Around} {s:Shared} {x:V} {v:Value} (rx:RelV x v) (fx:flatV x=true):∀ {xs:List V} {us:List Value},Vals xs us→xs.all flatV=true→∀ u∈us,SeqAt.EqAt A s u v (eqU x u)
 | _,_,.nil,_=>fun u hu=>by cases hu
 | y :: xs,u :: us,.cons r t,f=>fun u' hu=>by
  rw [List.all_cons,Bool.and_eq_true] at f
  rcases List.mem_cons.mp hu with rfl | hu
  ·rw [eqU_of r f.1]; exact eqAt_V r rx f.1 fx
  ·exact mem_eqAt rx fx t f.2 u' hu
def inV (x:V) (xs:List V):Bool:=xs.any fun y=>eqV y x
inductive rInI (K:PySem.W.Frag) (neg:Bool) (x:V) (y:V) (H:Hp) (Q:VK):Prop
 | mk (p xs:_) (h1:y=.ref p) (h2:(SqL K H p xs∨SqT K H p xs)) (h3:flatV x=true) (h4:xs.all flatV=true) (h5:Q (.bl (if neg then !inV x xs else inV x xs)) H):rInI K neg x y H Q
def rIn (K:PySem.W.Frag) (neg:Bool):R2:=fun x y H Q=>rInI K neg x y H Q
theorem op_notIn_seq:OpR X (compareOp .NotIn) (rIn X.K true):=by
 intro pins s σ H x y v u Q I rx ry h
 obtain ⟨p,xs,rfl,hq,fx,fs,q⟩:=h
 cases ry
 rcases hq with hq | hq
 ·obtain ⟨its,r,pl,hz⟩:=I.list hq
  refine SeqAt.notIn_listAt (eqU x) pl.isList (fun w hw=>mem_eqAt rx fx r fs w (by simpa using hw)) ⟨.bl _,H,I,rfl,?_⟩
  rw [show its.toArray.any (eqU x)=its.any (eqU x) by simp,any_eqU r fs]
  exact q
 ·obtain ⟨its,r,pl,hz⟩:=I.tuple hq
  refine SeqAt.notIn_tupleAt (eqU x) pl (fun w hw=>mem_eqAt rx fx r fs w (by simpa using hw)) ⟨.bl _,H,I,rfl,?_⟩
  rw [show its.toArray.any (eqU x)=its.any (eqU x) by simp,any_eqU r fs]
  exact q
theorem call_len_seq:CallR X (.builtin "len") (fun xs H Q=>∃ p ys,xs=[.ref p]∧(SqL X.K H p ys∨SqT X.K H p ys)∧Q (.int ys.length) H):=by
 intro pins s σ H xs us Q I r h
 obtain ⟨p,ys,rfl,hq,q⟩:=h
 obtain ⟨u,rfl,rx⟩:=vals1 r
 cases rx
 have hn:=line63
 rcases hq with hq | hq
 ·obtain ⟨its,r',pl,hz⟩:=I.list hq
  have hlen:=r'.length
  exact Calls.call_len_list pl.isList (by simp only [List.size_toArray] <;> omega) ⟨.int ys.length,H,I.tok _,⟨s.toks+1,by rw [List.size_toArray,hlen]⟩,q⟩
 ·obtain ⟨its,r',pl,hz⟩:=I.tuple hq
  have hlen:=r'.length
  exact len_tuple pl (by simp only [List.size_toArray] <;> omega) ⟨.int ys.length,H,I.tok _,⟨s.toks+1,by rw [List.size_toArray,hlen]⟩,q⟩
theorem call_len_str:CallR X (.builtin "len") (fun xs H Q=>∃ z,xs=[.str z]∧z.length≤sizeLine∧Q (.int z.length) H):=by
 intro pins s σ H xs us Q I r h
 obtain ⟨z,rfl,hz,q⟩:=h
 obtain ⟨u,rfl,t,rfl⟩:=vals1 r
 have hn:=line63
 exact len_str (by omega) ⟨.int z.length,H,I.tok _,⟨_,rfl⟩,q⟩
theorem call_list_of:CallR X (.type "list") (fun xs H Q=>∃ p ys,xs=[.ref p]∧(SqL X.K H p ys∨SqT X.K H p ys)∧∀ l,H l=none→Q (.ref l) (upd H l (.lst ys))):=by
 intro pins s σ H xs us Q I r h
 obtain ⟨p,ys,rfl,hq,q⟩:=h
 obtain ⟨u,rfl,rx⟩:=vals1 r
 cases rx
 have fin:∀ (its:List Value),Vals ys its→ys.length≤sizeLine→∀ (h':Heap) (c':Nat),(∀ b o',s.heap.get? b=some o'→h'.get? b=some o')→
   h'.get? s.heap.objs.size=some { cls:=.type "list",dict:=none,data:=.seq its.toArray c',slots:=#[] }→EP X pins σ Q (.ref s.heap.objs.size) { s with heap:=h' }:=fun its r' hz h' c' kp e=>
  ⟨.ref s.heap.objs.size,_,I.laid (t':=s.toks) kp (Nat.le_refl _) (show ObjOk X.prog X.w _ h' _ (.lst ys) from ⟨hz,its,c',r',e⟩),rfl,q _ (I.hok.fresh (Nat.le_refl _))⟩
 rcases hq with hq | hq
 ·obtain ⟨its,r',pl,hz⟩:=I.list hq
  have hlen:=r'.length
  obtain ⟨o,ho,hc,n,hd⟩:=pl.isList
  exact call_list_seq p (.inl rfl) ho hc hd (fun h' c' kp e=>fin its r' hz h' c' kp e) (by simp only [List.size_toArray] <;> omega)
 ·obtain ⟨its,r',pl,hz⟩:=I.tuple hq
  have hlen:=r'.length
  obtain ⟨o,ho,hc,n,hd⟩:=pl
  exact call_list_seq p (.inr rfl) ho hc hd (fun h' c' kp e=>fin its r' hz h' c' kp e) (by simp only [List.size_toArray] <;> omega)
theorem call_tuple_of:CallR X (.type "tuple") (fun xs H Q=>∃ p ys,xs=[.ref p]∧((SqL X.K H p ys∧∀ l,H l=none→Q (.ref l) (upd H l (.tup ys)))∨(SqT X.K H p ys∧Q (.ref p) H))):=by
 intro pins s σ H xs us Q I r h
 obtain ⟨p,ys,rfl,h⟩:=h
 obtain ⟨u,rfl,rx⟩:=vals1 r
 cases rx
 rcases h with ⟨hq,q⟩ | ⟨hq,q⟩
 ·obtain ⟨its,r',pl,hz⟩:=I.list hq
  have hlen:=r'.length
  refine call_tuple_list pl.isList (fun h' kp=>?_) (by simp only [List.size_toArray] <;> omega)
  have I1:Inv X pins σ H { s with heap:=h' }:=I.kept (t':=s.toks) kp
  have I2:Inv X pins σ (upd H h'.objs.size (.tup ys)) { s with heap:=h'.push { cls:=.type "tuple",data:=.seq its.toArray } }:=
   I1.laid (t':=s.toks) (fun b o e=>Heap.get?_push_of_some _ e) (Nat.le_refl _) (show ObjOk X.prog X.w _ _ _ (.tup ys) from ⟨hz,its,r',IsTup.new _ _⟩)
  exact ⟨.ref h'.objs.size,_,I2,rfl,q _ (I1.hok.fresh (Nat.le_refl _))⟩
 ·obtain ⟨its,r',pl,hz⟩:=I.tuple hq
  exact call_tuple_same pl ⟨.ref p,H,I,rfl,q⟩
def tyV (K:PySem.W.Frag) (T:String) (x:V) (H:Hp):Prop:=match x with
 | .str _=>T = "str"
 | .int _=>T = "int"
 | .ref p=>(T = "list"∧∃ xs,SqL K H p xs)∨(T = "tuple"∧∃ o,K.lookup p=some o∧o.cls=.type "tuple"∧o.dict=none)∨
   (T = "dict"∧((∃ kvs,H p=some (.dK kvs))∨∃ kvs,H p=some (.dT kvs)))∨(T = "set"∧∃ S n,H p=some (.set S n))
 | _=>False
theorem tyV_is {pins:List (Addr × Obj)} {σ:St} {H:Hp} {s:Shared} {T:String} {x:V} {v:Value} (I:Inv X pins σ H s) (r:RelV x v) (ty:tyV X.K T x H) :
  s.TypeIs v T∧∀ a,v=.ref a→∃ ob,s.heap.get? a=some ob∧ob.dict=none:=by
 cases x with
 | str z=>
  obtain ⟨t,rfl⟩:=r
  cases (show T = "str" from ty)
  exact ⟨typeIs_str s z t,fun _ e=>nomatch e⟩
 | int i=>
  obtain ⟨t,rfl⟩:=r
  cases (show T = "int" from ty)
  exact ⟨typeIs_int s i t,fun _ e=>nomatch e⟩
 | ref p=>
  cases r
  rcases ty with ⟨rfl,xs,hq⟩ | ⟨rfl,o,hk,hc,hd⟩ | ⟨rfl,hk⟩ | ⟨rfl,S,n,hk⟩
  ·obtain ⟨its,_,pl,_⟩:=I.list hq
   refine ⟨pl.isList.typeIs,fun a e=>?_⟩
   cases e
   obtain ⟨o,n,e,c,hd,_⟩:=pl
   exact ⟨o,e,hd⟩
  ·refine ⟨⟨o,I.kIn p o hk,hc⟩,fun a e=>?_⟩
   cases e
   exact ⟨o,I.kIn _ o hk,hd⟩
  ·have z:∃ o,s.heap.get? p=some o∧o.ExactDict:=by
    rcases hk with ⟨kvs,hk⟩ | ⟨kvs,hk⟩
    ·obtain ⟨_,_,_,_,o,_,_,e,ex,_⟩:=I.hok p _ hk
     exact ⟨o,e,ex⟩
    ·obtain ⟨_,_,_,_,o,_,_,e,ex,_⟩:=I.hok p _ hk
     exact ⟨o,e,ex⟩
   obtain ⟨o,e,ex⟩:=z
   refine ⟨⟨o,e,ex.1⟩,fun a e2=>?_⟩
   cases e2
   exact ⟨o,e,ex.2.1⟩
  ·obtain ⟨o,_,_,_,e,ex,_⟩:=I.hok p _ hk
   refine ⟨⟨o,e,ex.1⟩,fun a e2=>?_⟩
   cases e2
   exact ⟨o,e,ex.2.1⟩
 | _=>exact False.elim ty
def tBM0 (K:PySem.W.Frag) (T:String) (r:V→List V→Hp→VK→Prop) (to:TE):TE:=fun σ H Q=>to σ H fun x H1=>tyV K T x H1∧r x [] H1 Q
def tBM (K:PySem.W.Frag) (T:String) (r:V→List V→Hp→VK→Prop) (to:TE) (t:TA):TE:=fun σ H Q=>to σ H fun x H1=>tyV K T x H1∧t σ H1 fun xs H2=>r x xs H2 Q
variable {o e:Expr} {es:List Expr} {to:TE} {t:TA} {name:Str} {apos cpos:Pos} {T id:String} {r:V→List V→Hp→VK→Prop}
theorem pe_bm0 (pa:PlainAttrs T) (slot:Slot T name id) (hty:typeOf (.builtin id)=pure (.type "method_descriptor")) (hm:MtR X id r) (ho:PE X o to)
  (hbase:attributeBase o name X.env (eval o X.env)=eval o X.env:=by rfl) (hline:(apos.endLine==cpos.line)=true:=by rfl):PE X (.Call (.Attribute o name apos) [] [] cpos) (tBM0 X.K T r to):=by
 intro pins s σ H Q I h
 refine wpAny_Call_method0_late hbase hline (thn (ho pins s σ H _ I h) fun v s1 ⟨x,H1,I1,r1,ty,q1⟩=>?_)
 obtain ⟨h1,h2⟩:=tyV_is I1 r1 ty
 exact ⟨T,id,pa,slot,hty,h1,h2,Calls.callWith_builtin rfl (PySem.evalArgs_none (hm pins s1 σ H1 x [] v [] Q I1 r1 .nil q1))⟩
theorem pe_bm (pa:PlainAttrs T) (slot:Slot T name id) (hty:typeOf (.builtin id)=pure (.type "method_descriptor")) (hm:MtR X id r) (ho:PE X o to) (ha:PA X (e :: es) t)
  (hbase:attributeBase o name X.env (eval o X.env)=eval o X.env:=by rfl)
  (hfew:((backTo cpos (starEach (e :: es) X.env)).all (fun x=>!x.1) && (backToKw cpos (keywordEach [] X.env)).all (fun x=>x.1.isSome)
   && decide ((e :: es).length+([]:List Keyword).length+(if ([]:List Keyword).isEmpty then 0 else 1) < 30))=true:=by rfl)
  (hline:(apos.endLine==cpos.line)=true:=by rfl) (hs:starEach (e :: es) X.env=(false,eval e X.env) :: starEach es X.env:=by rfl) (hplain:(backTo cpos (starEach es X.env)).any (·.1)=false:=by rfl) :
  PE X (.Call (.Attribute o name apos) (e :: es) [] cpos) (tBM X.K T r to t):=by
 intro pins s σ H Q I h
 refine wpAny_Call_method_late hbase hfew hline rfl (thn (ho pins s σ H _ I h) fun v s1 ⟨x,H1,I1,r1,ty,q1⟩=>?_)
 obtain ⟨h1,h2⟩:=tyV_is I1 r1 ty
 refine ⟨T,id,pa,slot,hty,h1,h2,?_⟩
 have hA:=ha cpos pins s1 σ H1 _ I1 q1
 rw [hs] at hA ⊢
 refine Calls.callWith_builtin (by show (false || (backTo cpos (starEach es X.env)).any (·.1))=false; rw [hplain] <;> rfl) (Calls.evalArgs_plain ?_)
 exact thn hA fun us s2 ⟨vs,H2,I2,r2,q2⟩=>hm pins s2 σ H2 x vs v us Q I2 r1 r2 q2
end
end L2
namespace L2
open PySem PySem.Spec PyProof.Rows
def MtM (X:Cx) (id:String) (r:V→List V→Hp→VK→Prop):Prop:=
 ∀ (pins:List (Addr × Obj)) (s:Shared) (σ:St) (H:Hp) (x:V) (xs:List V) (v:Value) (us:List Value) (Q:VK),Inv X pins σ H s→RelV x v→Vals xs us→r x xs H Q→
  wpAny (model X.prog X.w) X.A (call (.builtin id) (v :: us)) (EP X pins σ Q) X.xe s
theorem Vals.one:∀ {x:V} {us:List Value},Vals [x] us→∃ u,us=[u]∧RelV x u
 | _,_,.cons r .nil=>⟨_,rfl,r⟩
theorem Vals.two:∀ {x y:V} {us:List Value},Vals [x,y] us→∃ u v,us=[u,v]∧RelV x u∧RelV y v
 | _,_,_,.cons r (.cons q .nil)=>⟨_,_,rfl,r,q⟩
theorem Vals.zero:∀ {us:List Value},Vals [] us→us=[]
 | _,.nil=>rfl
theorem Vals.dropLast {xs:List V} {us:List Value} (h:Vals xs us):Vals xs.dropLast us.dropLast:=by
 induction h with
 | nil=>exact .nil
 | cons r t ih=>
  cases t with
  | nil=>exact .nil
  | cons q t'=>exact .cons r ih
theorem Vals.eraseIdx:∀ {xs:List V} {us:List Value} (i:Nat),Vals xs us→Vals (xs.eraseIdx i) (us.eraseIdx i)
 | _,_,_,.nil=>.nil
 | _,_,0,.cons _ t=>t
 | _,_,i+1,.cons r t=>.cons r (Vals.eraseIdx i t)
theorem erase_last {α:Type} (l:List α):l.eraseIdx (l.length - 1)=l.dropLast:=by
 induction l with
 | nil=>rfl
 | cons a r ih=>
  cases r with
  | nil=>rfl
  | cons b r=>
   have e:(a :: b :: r).length - 1=((b :: r).length - 1)+1:=by
    have h1:(a :: b :: r).length=r.length+2:=rfl
    have h2:(b :: r).length=r.length+1:=rfl
    omega
   rw [e,List.eraseIdx_cons_succ,ih]
   all_goals rfl
theorem len_erase {α:Type}:∀ (l:List α) (i:Nat),(l.eraseIdx i).length≤l.length
 | [],_=>Nat.le_refl _
 | _ :: _,0=>Nat.le_succ _
 | _ :: r,i+1=>Nat.succ_le_succ (len_erase r i)
section
variable {X:Cx} {pins:List (Addr × Obj)} {σ:St} {H:Hp} {s:Shared} {l b:Addr} {xs ys zs:List V}
theorem Inv.lset {its its':List Value} {n:Nat} {f:Array Value→Array Value} {t':Nat} (I:Inv X pins σ H s) (hH:H l=some (.lst xs))
  (e:s.heap.get? l=some { cls:=.type "list",data:=.seq its.toArray n }) (hf:f its.toArray=its'.toArray) (hv:Vals ys its') (hz:ys.length≤sizeLine) :
  Inv X pins σ (upd H l (.lst ys)) { s with heap:=s.heap.update l (Obj.mapSeq f),toks:=t' }:=by
 have q:=PySem.IsL.update e f
 rw [hf] at q
 refine I.write (x:=l) (e:=l) (by rw [hH]; exact trivial) (.inl rfl) (fun b' u hb hu=>(Heap.get?_update_other s.heap (Obj.mapSeq f) (Ne.symm hb)).trans hu) ⟨_,q⟩ ?_
 exact ⟨hz,its',_,hv,q⟩
theorem Inv.lnew {its:List Value} {t':Nat} (I:Inv X pins σ H s) (hv:Vals ys its) (hz:ys.length≤sizeLine) :
  Inv X pins σ (upd H s.heap.objs.size (.lst ys)) { s with heap:=s.heap.push { cls:=.type "list",data:=.seq its.toArray },toks:=t' }:=
 I.laid (fun _ _ q=>Heap.get?_push_of_some _ q) (Nat.le_refl _) ⟨hz,its,0,hv,Heap.get?_push_size _ rfl⟩
theorem Inv.fresh (I:Inv X pins σ H s):H s.heap.objs.size=none:=I.hok.fresh (Nat.le_refl _)
theorem Inv.lstM (I:Inv X pins σ H s) (hH:H l=some (.lst xs)):xs.length≤sizeLine∧∃ (its:List Value) (n:Nat),Vals xs its∧xs.length=its.length∧s.heap.get? l=some { cls:=.type "list",data:=.seq its.toArray n }:=by
 obtain ⟨z,its,n,r,e⟩:=I.hok l _ hH
 exact ⟨z,its,n,r,r.length,e⟩
theorem notLongL {n:Nat} (h:n≤sizeLine):Builtin.List.listTooLong n=false:=by
 unfold Builtin.List.listTooLong
 exact decide_eq_false (by omega)
end
section
variable {X:Cx}
inductive rAppendI (x:V) (vs:List V) (H:Hp) (Q:VK):Prop
 | mk (l xs y:_) (h1:x=.ref l) (h2:vs=[y]) (h3:H l=some (.lst xs)) (h4:xs.length < sizeLine) (h5:Q .non (upd H l (.lst (xs ++ [y])))):rAppendI x vs H Q
def rAppend:V→List V→Hp→VK→Prop:=fun x vs H Q=>rAppendI x vs H Q
theorem mt_append:MtM X "list.append" rAppend:=by
 intro pins s σ H x vs v us Q I rx rv h
 obtain ⟨l,xs,y,rfl,rfl,hH,hz,q⟩:=h
 cases rx
 obtain ⟨u,rfl,ru⟩:=rv.one
 obtain ⟨z,its,n,r,hl,e⟩:=I.lstM hH
 refine call_meets F.slot_list_append ⟨_,e,rfl⟩ F.entry_list_append (F.args_list_append_2 _ _) (PySem.list_append l its.toArray n u (by rw [List.size_toArray]; omega)) ⟨e,?_⟩
 refine ⟨.non,_,I.lset (its':=its ++ [u]) hH e (by simp) (r.append (.cons ru .nil)) ?_,rfl,q⟩
 rw [List.length_append,List.length_singleton]
 omega
inductive rExtendI (x:V) (vs:List V) (H:Hp) (Q:VK):Prop
 | mk (l b xs zs:_) (h1:x=.ref l) (h2:vs=[.ref b]) (h3:H l=some (.lst xs)) (h4:H b=some (.lst zs)) (h5:xs.length+zs.length≤sizeLine) (h6:Q .non (upd H l (.lst (xs ++ zs)))):rExtendI x vs H Q
def rExtend:V→List V→Hp→VK→Prop:=fun x vs H Q=>rExtendI x vs H Q
theorem mt_extend:MtM X "list.extend" rExtend:=by
 intro pins s σ H x vs v us Q I rx rv h
 obtain ⟨l,b,xs,zs,rfl,rfl,hH,hB,hz,q⟩:=h
 cases rx
 obtain ⟨u,rfl,ru⟩:=rv.one
 cases ru
 obtain ⟨z,its,n,r,hl,e⟩:=I.lstM hH
 obtain ⟨z2,its2,n2,r2,hl2,e2⟩:=I.lstM hB
 have hsz:its.toArray.size+its2.toArray.size≤sizeLine:=by rw [List.size_toArray,List.size_toArray]; omega
 have hlong:¬ (!its.toArray.isEmpty && Builtin.List.listTooLong (its.toArray.size+its2.toArray.size))=true:=by
  rw [notLongL hsz,Bool.and_false]
  exact Bool.false_ne_true
 refine call_meets F.slot_list_extend ⟨_,e,rfl⟩ F.entry_list_extend (F.args_list_extend_2 _ _)
  (AutoSeq1.list_extend_list_list_0 l its.toArray n b its2.toArray n2 hlong (by rw [List.size_toArray]; omega) (by omega)) ⟨e,e2,?_⟩
 refine ⟨.non,_,I.lset (its':=its ++ its2) hH e (by simp) (r.append r2) ?_,rfl,q⟩
 rw [List.length_append]
 omega
inductive rPopI (x:V) (vs:List V) (H:Hp) (Q:VK):Prop
 | mk (l xs y:_) (h1:x=.ref l) (h2:vs=[]) (h3:H l=some (.lst xs)) (h4:xs[xs.length - 1]? = some y) (h5:Q y (upd H l (.lst xs.dropLast))):rPopI x vs H Q
def rPop:V→List V→Hp→VK→Prop:=fun x vs H Q=>rPopI x vs H Q
theorem mt_pop:MtM X "list.pop" rPop:=by
 intro pins s σ H x vs v us Q I rx rv h
 obtain ⟨l,xs,y,rfl,rfl,hH,hy,q⟩:=h
 cases rx
 have hus:=rv.zero
 subst hus
 obtain ⟨z,its,n,r,hl,e⟩:=I.lstM hH
 obtain ⟨u,hu,ru⟩:=r.get hy
 have hy':its.toArray[its.toArray.size - 1]? = some u:=by
  show its.toArray[its.length - 1]? = some u
  rw [← Array.getElem?_toList,← hl]
  exact hu
 refine call_meets F.slot_list_pop ⟨_,e,rfl⟩ F.entry_list_pop (F.args_list_pop_1 _) (MeetsSeq.list_pop_last l its.toArray n u hy' (by rw [List.size_toArray]; omega)) ⟨e,?_⟩
 refine ⟨y,_,I.lset (its':=its.dropLast) hH e ?_ r.dropLast ?_,ru,q⟩
 ·show its.toArray.eraseIdxIfInBounds (its.toArray.size - 1)=its.dropLast.toArray
  rw [List.size_toArray,List.eraseIdxIfInBounds_toArray,erase_last]
 ·rw [List.length_dropLast]
  omega
inductive rPopAtI (x:V) (vs:List V) (H:Hp) (Q:VK):Prop
 | mk (l xs i k y:_) (h1:x=.ref l) (h2:vs=[.int i]) (h3:H l=some (.lst xs)) (h4 : -(2 ^ 63)≤i) (h5:i < 2 ^ 63) (h6:seqIndex? i xs.length=some k) (h7:xs[k]? = some y) (h8:Q y (upd H l (.lst (xs.eraseIdx k)))):rPopAtI x vs H Q
def rPopAt:V→List V→Hp→VK→Prop:=fun x vs H Q=>rPopAtI x vs H Q
theorem mt_popAt:MtM X "list.pop" rPopAt:=by
 intro pins s σ H x vs v us Q I rx rv h
 obtain ⟨l,xs,i,k,y,rfl,rfl,hH,h1,h2,hk,hy,q⟩:=h
 cases rx
 obtain ⟨u,rfl,ru⟩:=rv.one
 obtain ⟨t,rfl⟩:=ru
 obtain ⟨z,its,n,r,hl,e⟩:=I.lstM hH
 obtain ⟨w,hw,rw'⟩:=r.get hy
 refine call_meets F.slot_list_pop ⟨_,e,rfl⟩ F.entry_list_pop (F.args_list_pop_2 _ _)
  (MeetsSeq.list_pop_at l its.toArray n i t k w (fitsIndex_both h1 h2) (by rw [List.size_toArray,← hl]; exact hk) (by rw [← Array.getElem?_toList]; exact hw) (by rw [List.size_toArray]; omega)) ⟨e,?_⟩
 refine ⟨y,_,I.lset (its':=its.eraseIdx k) hH e ?_ (r.eraseIdx k) ?_,rw',q⟩
 ·show its.toArray.eraseIdxIfInBounds k=(its.eraseIdx k).toArray
  rw [List.eraseIdxIfInBounds_toArray]
 ·have:=len_erase xs k
  omega
inductive rCatI (x:V) (y:V) (H:Hp) (Q:VK):Prop
 | mk (l b xs zs:_) (h1:x=.ref l) (h2:y=.ref b) (h3:H l=some (.lst xs)) (h4:H b=some (.lst zs)) (h5:xs.length+zs.length≤sizeLine) (h6:∀ p,H p=none→Q (.ref p) (upd H p (.lst (xs ++ zs)))):rCatI x y H Q
def rCat:R2:=fun x y H Q=>rCatI x y H Q
theorem op_cat:OpR X (binaryOp .Add) rCat:=by
 intro pins s σ H x y v u Q I rx ry h
 obtain ⟨l,b,xs,zs,rfl,rfl,hH,hB,hz,q⟩:=h
 cases rx
 cases ry
 obtain ⟨z,its,n,r,hl,e⟩:=I.lstM hH
 obtain ⟨z2,its2,n2,r2,hl2,e2⟩:=I.lstM hB
 refine PySem.P.add_list e e2 ?_ (by rw [List.size_toArray,List.size_toArray]; omega)
 have ea:its.toArray ++ its2.toArray=(its ++ its2).toArray:=by simp
 rw [ea]
 exact ⟨.ref _,_,I.lnew (t':=s.toks) (r.append r2) (by rw [List.length_append]; omega),rfl,q _ I.fresh⟩
end
section
variable {prog:Program} {w:World} {A:Around} {E:Value→Shared→Prop} {s:Shared}
set_option maxRecDepth 100000 in
end
section
variable {X:Cx}
end
end L2
namespace Att
open PySem PySem.W PySem.Calls PyProof.Rows
theorem ints_of_wellAll {P:Params} {h:Heap}:∀ (ns:List Int) (vs:List Value),WellAll P h vs (ns.map WData.int)→IntsAre vs ns:=by
 intro ns
 induction ns with
 | nil=>
  intro vs w
  rw [List.map_nil] at w
  cases w
  exact .nil
 | cons n ns ih=>
  intro vs w
  rw [List.map_cons] at w
  cases w with
  | cons a b=>
   cases a
   exact .cons _ _ (ih _ b)
theorem script_of {l:OpenLaw} {n:Nat} (hn:l.most=some n) {P:Params} {h:Heap} {args:List WData} {vals:List Value}
  (hpre:l.row.toRowW.claim.pre args=true) (hwl:WellAll P h vals args) :
  ∃ a vs ns,vals=[Value.ref a]∧args=[WData.list (ns.map WData.int)]∧h.get? a=some { cls:=.type "list",data:=.seq vs.toArray }∧IntsAre vs ns∧ns.length≤n:=by
 have hsh:WShape.hasAll [] args [.list .int]=true:=(pre_splitW hpre).1
 have hc:l.pre.holds [] { args:=args } = true:=(pre_splitW hpre).2
 obtain ⟨d,r,rfl,h1,h2⟩:=hasAllW_cons hsh
 obtain rfl:=hasAllW_nil h2
 obtain ⟨xs,rfl,h3⟩:=hasW_list h1
 obtain ⟨ns,rfl⟩:=items_int h3
 have hlen:ns.length≤n:=by
  unfold OpenLaw.pre at hc
  have h4:(WTm.not (.lt (.lit (.int (n:Int))) (.len (.arg 0)))).holds [] { args:=[.list (ns.map .int)] } = true:=by
   have h4:=(holds_andW hc).1
   rw [hn] at h4
   exact h4
  have h5:=condW_of h4 (w_not (w_lt w_lit (w_len_list (w_arg rfl))))
  rw [List.length_map] at h5
  refine Nat.le_of_not_lt fun q=>?_
  have q':(n:Int) < ((ns.length:Nat):Int):=by omega
  first
   | (rw [decide_eq_true q'] at h5; exact absurd h5 (by decide))
   | (simp at h5; omega)
 cases hwl with
 | cons w1 w2=>
  cases w2
  cases w1 with
  | list ho hall=>exact ⟨_,_,ns,rfl,rfl,ho,ints_of_wellAll ns _ hall,hlen⟩
theorem post_true (l:OpenLaw) (args:List WData):l.row.toRowW.claim.post args (.bool true) args=true:=
 postW_of (r:=l.row.toRowW) (X:=(true==true))
  (show WShape.has [] (.bool true) .bool=true by first | rfl | decide | simp [WShape.has,WShape.arms,WShape.armsAll])
  (show (WTm.eq .res (.lit (.bool true))).value [] { args:=args,res:=some (.bool true),after:=args } = some (.bool (true==true)) from w_eq_bool (w_res rfl) w_lit) rfl
theorem attach_call {l:OpenLaw} {n:Nat} {q:Program} {loose:List Str} {XP:(Str→Option Value)→Heap→Prop} {YP:World→Heap→Prop} {d:DefRec}
  (hn:l.most=some n) (hdf:d.params.defaults=[])
  (call:∀ (w:World) (s₀ s₁:Shared) (mg mb:Str→Option Value) (fa:Addr) (o:Obj) (pm cd doc:Value) (a:Addr) (vs:List Value) (ns:List Int),
   Ground q loose [] XP w s₀ mg mb s₁.heap→YP w s₁.heap→
   s₁.heap.get? fa=some o→o.data=.func (docDef d.name d.params d.body d.scope pm cd doc)→s₁.heap.CodeRec cd d.name→mg d.name=some (.ref fa)→
   s₁.heap.get? a=some { cls:=.type "list",data:=.seq vs.toArray }→IntsAre vs ns→ns.length≤n→s₁.gens = #[]→
   codeAny (model l.prog w) callerA (.call (.ref fa) ⟨[.ref a],[]⟩) (fun r s'=>r=.ok (.ret (.bool true))∧OldK s₁.heap s'.heap∧s'.os=s₁.os∧AllBare s'.gens) s₁) :
  WalkO q loose XP YP l.row.toRowW d [] (fun f vs=>PySem.call f vs):=by
 intro w s₀ s₁ mg mb G Y fa o pm cd doc dV kV ho hd hcd hD hmg hg args vals as hpre hlay hrd hwl hlo
 obtain rfl:dV=.none:=Dflts.none hD hdf
 obtain rfl:kV=.none:=Dflts.noKw hD
 obtain ⟨a,vs,ns,rfl,rfl,hobj,hints,hlen⟩:=script_of hn hpre hwl
 refine enter_call (codeAny_mono (call w s₀ s₁ mg mb fa o pm cd doc a vs ns G Y ho (fd_plain hd) hcd hmg hobj hints hlen hg) fun r s' hq=>?_)
 obtain ⟨rfl,h2,h3,h4⟩:=hq
 exact ⟨.inl ⟨.bool true,.bool true,[],rfl,fun _=>rfl,.bool true,post_true l _,fun _=>⟨List.Pairwise.nil,fun _ hm=>(nomatch hm)⟩⟩,h2,h3,h4⟩
section
variable {prog:Program} {w:World} {A:Around} {E:Value→Shared→Prop} {s:Shared} {K:Frag}
def ledger (h:Heap) (L d:Addr):List (Addr × Obj):=(List.range h.objs.size).filterMap fun a=>if a=L∨a=d then none else (h.get? a).map fun o=>(a,o)
end
end Att
namespace L2
open PySem PySem.Spec PyProof.Rows
theorem vals_ints:∀ {vs:List Value} {ns:List Int},IntsAre vs ns→Vals (ns.map V.int) vs
 | _,_,.nil=>.nil
 | _,_,.cons n t h=>.cons ⟨t,rfl⟩ (vals_ints h)
def Only (H:Hp):Prop:=∀ b,H b=none∨∃ o xs,H b=some (.frz o (.lst xs))
theorem law_call {P:Program} {w:World} {K:PySem.W.Frag} {mg mb:Str→Option Value} {CX:CXT} {k:Nat} {fa a:Addr} {fd:FuncData} {x:Str} {sp:Sp} {s₁:Shared} {vs:List Value} {ns:List Int}
  (KX:K.In s₁.heap) (hns:s₁.heap.Ns mainGlobals mg) (hb:s₁.heap.Ns builtinsNs mb) (hbb:∀ x:Str,x≠"__name__"→mb x=bootBuiltins x) (hlim:s₁.heap.NoLimit) (hg:s₁.gens = #[])
  (ha:s₁.heap.get? a=some { cls:=.type "list",data:=.seq vs.toArray }) (hi:IntsAre vs ns) (hl:ns.length≤sizeLine) (hr:Room k callerA)
  (F:∀ base:Heap,K.In base→base.Ns mainGlobals mg→FnOk P w K mg base CX k fa fd [x] sp) (hbind:∀ (s:Shared) (u:Value),BindsTo s fd ⟨[u],[]⟩ [(x,u)])
  (hsp:∀ H:Hp,Only H→SqL K H a (ns.map V.int)→sp [.ref a] H (fun v _=>v=.bl true) fun _ _ _=>False)
  (hCX:∀ H e s',CX [] H s₁ (fun _ _ _=>False) e s'→False) :
  codeAny (model P w) callerA (.call (.ref fa) ⟨[.ref a],[]⟩) (fun r s'=>r=.ok (.ret (.bool true))∧OldK s₁.heap s'.heap∧s'.os=s₁.os∧AllBare s'.gens) s₁:=by
 have rv:=vals_ints hi
 have lenV:=hi.length
 have core:∀ H:Hp,Only H→SqL K H a (ns.map V.int)→HOk P w H s₁.heap→(∀ b,H b≠none→b=a)→(H a≠none→K.lookup a=none)→
   codeAny (model P w) callerA (.call (.ref fa) ⟨[.ref a],[]⟩) (fun r s'=>r=.ok (.ret (.bool true))∧OldK s₁.heap s'.heap∧s'.os=s₁.os∧AllBare s'.gens) s₁:=by
  intro H hO hS hok hA hK
  have base_of:∀ {b:Addr} {o:Obj},s₁.heap.get? b=some o→H b=none→(hidT s₁.heap H).get? b=some o:=fun e n=>hidT_get e n
  have noA:∀ {b:Addr} {o:Obj} {es:Array DictEntry} {ep:Nat},s₁.heap.get? b=some o→o.data=.dict es ep→H b=none:=fun {b o es ep} e d=>by
   cases q:H b with
   | none=>rfl
   | some u=>
    have e':b=a:=hA b (by rw [q]; simp)
    subst e'
    rw [ha] at e; cases e
    have d':Data.seq vs.toArray _=Data.dict es ep:=d
    cases d'
  have nsK:∀ {b:Addr} {m:Str→Option Value},s₁.heap.Ns b m→(hidT s₁.heap H).Ns b m:=fun {b m} ⟨o,es,ep,e,d,r⟩=>⟨o,es,ep,base_of e (noA e d),d,r⟩
  have hKb:K.In (hidT s₁.heap H):=fun b o e=>base_of (KX b o e) (by
   cases q:H b with
   | none=>rfl
   | some u=>
    have e':b=a:=hA b (by rw [q]; simp)
    subst e'
    rw [hK (by rw [q]; simp)] at e; cases e)
  have hM:Mod K mg (hidT s₁.heap H):=⟨hKb,nsK hns,⟨mb,nsK hb,hbb⟩,let ⟨mc,h1,h2⟩:=hlim; ⟨mc,nsK h1,h2⟩⟩
  have e0:Env0 P w K mg (hidT s₁.heap H) callerA [] s₁ H:=⟨rfl,hM,fun b o e=>of_hidT e,Nat.le_of_eq (hidT_size _ _),trivial,fun b hb=>absurd (show b∈([]:List Addr) from hb) (by simp),hok,.of_eq hg⟩
  refine codeAny_mono ((F _ hKb (nsK hns)).run callerA [] s₁ H ⟨[.ref a],[]⟩ [.ref a] [.ref a] _ _ hr e0 (hbind s₁ (.ref a)) (.cons rfl .nil) (hsp H hO hS)) fun r s' h=>?_
  cases r with
  | error e=>exact (hCX H e s' h).elim
  | ok fl=>
   cases fl with
   | next=>exact False.elim h
   | brk=>exact False.elim h
   | cont=>exact False.elim h
   | ret u=>
    obtain ⟨v,H',os,bare,un,hok',r',q⟩:=h
    have q':v=.bl true:=q
    subst q'
    obtain rfl:u=Value.bool true:=r'
    refine ⟨rfl,OldK.of_keep fun b o e=>?_,os,bare⟩
    cases q:H b with
    | none=>exact un.keep b o e q (by intro z; exact absurd (show b∈([]:List Addr) from z) (by simp)) (by simp)
    | some u=>
     rcases hO b with z | ⟨ob,xs,z⟩
     ·rw [q] at z; cases z
     ·have z2:=un.frzs b ob _ z
      obtain ⟨e1,_⟩:=hok b _ z
      obtain ⟨e2,_⟩:=hok' b _ z2
      rw [e] at e1; cases e1
      exact e2
 cases hk:K.lookup a with
 | some o=>
  have e:=KX a o hk
  rw [ha] at e
  cases e
  refine core (fun _=>none) (fun _=>.inl rfl) (.inr ⟨_,vs.toArray,_,hk,rfl,rfl,rfl,by rw [List.size_toArray,lenV]; exact hl,by simpa using rv⟩) (fun b u z=>by have z':(none:Option HO)=some u:=z; cases z') (fun b z=>absurd rfl z) fun z=>absurd rfl z
 | none=>
  refine core (fun b=>if b=a then some (.frz { cls:=.type "list",data:=.seq vs.toArray } (.lst (ns.map V.int))) else none) (fun b=>?_) (.inl (.inr ⟨{ cls:=.type "list",data:=.seq vs.toArray },if_pos rfl⟩)) (fun b u z=>?_) (fun b z=>?_) fun _=>hk
  ·by_cases hb:b=a
   ·exact .inr ⟨_,_,if_pos hb⟩
   ·exact .inl (if_neg hb)
  ·by_cases hb:b=a
   ·have z':=(if_pos hb).symm.trans z
    cases z'
    subst hb
    exact ⟨ha,by rw [List.length_map]; exact hl,vs,_,rv,ha⟩
   ·have z':=(if_neg hb).symm.trans z
    cases z'
  ·by_cases hb:b=a
   ·exact hb
   ·exact absurd (if_neg hb) z
end L2
namespace L2
open PySem PySem.Spec PyProof.Rows
abbrev KOf {K:PySem.W.Frag} {h:Heap} (_:K.In h):PySem.W.Frag:=K
theorem walk_of {l:PySem.W.OpenLaw} {n k:Nat} {q:Program} {loose:List Str} {XP:(Str→Option Value)→Heap→Prop} {YP:World→Heap→Prop} {d:DefRec} {K:Params→PySem.W.Frag} {CX:World→CXT} {sp:World→Sp} {x:Str}
  (hn:l.most=some n) (hn2:n≤sizeLine) (hdf:d.params.defaults=[]) (hr:Room k callerA)
  (hY:∀ (w:World) (h:Heap),YP w h→(K w.params).In h)
  (F:∀ (w:World) (mg:Str→Option Value) (fa:Addr) (h:Heap),(K w.params).In h→h.Ns mainGlobals mg→mg d.name=some (.ref fa)→
   ∃ fd:FuncData,(∀ (s:Shared) (u:Value),BindsTo s fd ⟨[u],[]⟩ [(x,u)])∧
    ∀ base:Heap,(K w.params).In base→base.Ns mainGlobals mg→FnOk l.prog w (K w.params) mg base (CX w) k fa fd [x] (sp w))
  (hsp:∀ (w:World) (H:Hp) (a:Addr) (ns:List Int),ns.length≤n→Only H→SqL (K w.params) H a (ns.map V.int)→sp w [.ref a] H (fun v _=>v=.bl true) fun _ _ _=>False)
  (hCX:∀ (w:World) (H:Hp) (s:Shared) (e:Value) (s':Shared),CX w [] H s (fun _ _ _=>False) e s'→False) :
  PySem.W.WalkO q loose XP YP l.row.toRowW d [] (fun f vs=>PySem.call f vs):=by
 refine Att.attach_call hn hdf fun w s₀ s₁ mg mb fa o pm cd doc a vs ns G Y ho hd hcd hmg hobj hints hlen hg=>?_
 have KX:=hY w _ Y
 obtain ⟨fd,hb,hF⟩:=F w mg fa _ KX G.T.g hmg
 exact law_call KX G.T.g G.T.b G.T.builtins G.T.nolimit hg hobj hints (Nat.le_trans hlen hn2) hr hF hb (fun H hO hS=>hsp w H a ns hlen hO hS) fun H e s'=>hCX w H s₁ e s'
end L2
/- THE LAST THEOREM (shape; LID,My.* are yours):
   My.Adr: a structure of the addresses that your layer names (classes,functions); My.Txt K t: a structure (Prop) of the equations over K;
   My.txt_mk:{K} {implicit addresses ..} (e1:nsIn K mainGlobals "law" = some (some (.ref f))) (e2:K.lookup f=some ⟨oc,od,.func (fnOf "law" "law" params body scope dV kV doc pm an cdv ct),sl⟩) (e3:codeIn K cdv "law" = true) .. : ∃ t,My.Txt K t
set_option maxRecDepth 100000 in
set_option maxHeartbeats 0 in
theorem PySem.Challenge.cw_LID_holds : PySem.Challenge.rw_LID.Holds := by
 w_on; o_law; k_head; (case hw=>w_witness2)
 k_fill
 refine L2.walk_of (l:=PySem.Challenge.rw_LID) (n:=63) (k:=40) (x:="script") (CX:=fun w=>..) (sp:=fun _=>My.sp_law) rfl (by decide) rfl ⟨rfl,by decide,by decide⟩ (fun w h Y=>PySem.W.kIn_of Y) ?F ?S ?C
 case F=>
  intro w mg fa h KX G hmg
  have T:∃ t,My.Txt (L2.KOf KX) t:=by
   dsimp only [L2.KOf]                          -- K must stand as «<heap const> w.params» for k_is
   refine' My.txt_mk ?e1 ?e2 ?e3 ..
   (case e1=>PySem.W.k_is)                    -- in the order: a name -> its address -> its object -> its parts
   (case e2=>PySem.W.k_is)
   ..
  obtain ⟨t,T⟩:=T
  have e0:=hmg.symm.trans (PySem.W.mg_of KX G T.law)
  cases e0                                       -- fa is the law's own address
  exact ⟨_,fun s u=>.of_eq rfl,fun base kb nb=>My.law_fn T kb nb⟩     -- if «.of_eq rfl» comes too early: refine' ⟨_,?b,fun base kb nb=>My.law_fn T kb nb⟩; exact fun s u=>.of_eq rfl
 case S=>exact fun w H a ns hl hO hS=>..
 case C=>exact ..
(the tactic k_is has no namespace: write k_is) -/
namespace L2
open PySem PySem.Spec PyProof.Rows
def defArgs (s:Stmt):Arguments:=match s with
 | .FunctionDef _ a _ _ _ _ _ _ _ _=>a
 | _=>{ posonlyargs:=[],args:=[],vararg:=none,kwonlyargs:=[],kw_defaults:=[],kwarg:=none,defaults:=[] }
def defBody (s:Stmt):List Stmt:=match s with
 | .FunctionDef _ _ b _ _ _ _ _ _ _=>b
 | _=>[]
def defScope (s:Stmt):Scope:=match s with
 | .FunctionDef _ _ _ _ _ _ sc _ _ _=>sc
 | _=>{ kind:=.function,names:=[],isGenerator:=false,isCoroutine:=false }
abbrev CX0:CXT:=fun _ _ _ _ _ _=>False
abbrev E0:XK:=fun _ _ _=>False
theorem pass0 {X:Cx}:Passes CX0 X E0:=fun _ _ _ _ _ _ _ h=>h.elim
structure Fun (K:PySem.W.Frag) (x qual:Str) (st:Stmt) (f:Addr) (fd:FuncData):Prop where
 ex:∃ (oc:Value) (od:Option Addr) (kV doc pm:Value) (an:Option Addr) (cdv ct:Value) (osl:Array (Option Value)),
  fd=PySem.W.fnOf x qual (defArgs st) (defBody st) (defScope st) .none kV doc pm an cdv ct∧K.lookup f=some ⟨oc,od,.func fd,osl⟩∧PySem.W.codeIn K cdv qual=true
 kp:PySem.W.keepIn K (.ref f)=true
section
variable {P:Program} {w:World} {K:PySem.W.Frag} {mg:Str→Option Value} {base:Heap}
theorem Fun.ok {x qual:Str} {st:Stmt} {f:Addr} {fd:FuncData} {N ps:List Str} {k:Nat} {sp:Sp} (F:Fun K x qual st f fd) (S:FnScope N ps (defScope st)) (len:∀ vs H Q E,sp vs H Q E→vs.length=ps.length)
  (hbody:∀ (cdv:Value) (A:Around) (outer:List Env) (s:Shared) (H:Hp) (vs:List V) (Q:VK) (E:XK),Room k (A.deeper (envOfC qual (defScope st) s.heap.objs.size f cdv))→sp vs H Q E→
   ∃ t,PSs (cxOf CX0 P w K mg base N qual (defScope st) f cdv A outer s H E).nox (defBody st) t∧t { nx:=fun _ H'=>Q .non H',rt:=Q } (start N vs) H):FnOk P w K mg base CX0 (k+1) f fd ps sp:=by
 obtain ⟨oc,od,kV,doc,pm,an,cdv,ct,osl,rfl,lk,hcd⟩:=F.ex
 refine fn_of lk hcd S len fun A outer s H vs Q E hr hsp=>?_
 obtain ⟨t,h,q⟩:=hbody cdv A outer s H vs Q E hr hsp
 exact ⟨t,h.nox,q⟩
theorem Fun.binds {x qual:Str} {st:Stmt} {f:Addr} {fd:FuncData} {ps:List Str} (F:Fun K x qual st f fd)
  (h:∀ (kV doc pm:Value) (an:Option Addr) (cdv ct:Value) (us:List Value),us.length=ps.length→bindArgs (PySem.W.fnOf x qual (defArgs st) (defBody st) (defScope st) .none kV doc pm an cdv ct) ⟨us,[]⟩=pure (ps.zip us)):Binds K fd ps []:=by
 obtain ⟨oc,od,kV,doc,pm,an,cdv,ct,osl,rfl,lk,hcd⟩:=F.ex
 exact .all (h kV doc pm an cdv ct)
theorem fun_mk {x qual:Str} {st:Stmt} {f:Addr} {oc:Value} {od an:Option Addr} {osl:Array (Option Value)} {kV doc pm cdv ct:Value} (l:K.lookup f=some ⟨oc,od,.func (PySem.W.fnOf x qual (defArgs st) (defBody st) (defScope st) .none kV doc pm an cdv ct),osl⟩)
  (c:PySem.W.codeIn K cdv qual=true) (k:PySem.W.keepIn K (.ref f)=true):Fun K x qual st f (PySem.W.fnOf x qual (defArgs st) (defBody st) (defScope st) .none kV doc pm an cdv ct):=⟨⟨oc,od,kV,doc,pm,an,cdv,ct,osl,rfl,l,c⟩,k⟩
end
theorem hu_of {A:Around} {k:Nat} (hr:Room k A):A.units+1 < cLine:=Nat.lt_of_le_of_lt (Nat.add_le_add_left (by decide:1≤64) _) hr.units
theorem small1000 {n:Nat} (h:n≤1000):n < sizeLine:=Nat.lt_of_le_of_lt h (by decide)
section
variable {X:Cx}
theorem pv (i:Nat) {x:Str} {pos:Pos} (hN:X.N[i]? = some x:=by rfl) (hv:Vis X.env.scope x:=by first | exact Or.inl rfl | exact Or.inr (Or.inl rfl) | exact Or.inr (Or.inr rfl)) (hd:(x==("__debug__" : Str))=false:=by decide)
  (hcd:(x==("__classdict__" : Str))=false:=by decide):PE X (.Name x pos) (tVar i):=pe_var hN hv hd hcd
end
theorem iteF {A B:Prop} (h:B):if false=true then A else B:=by
 rw [if_neg Bool.false_ne_true]
 exact h
theorem iteT {A B:Prop} (h:A):if true=true then A else B:=by
 rw [if_pos rfl]
 exact h
theorem ite2 {c A B:Prop} [Decidable c] (h1:c→A) (h2:¬ c→B):if c then A else B:=by
 by_cases h:c
 ·rw [if_pos h]
  exact h1 h
 ·rw [if_neg h]
  exact h2 h
def Same (H H':Hp):Prop:=∀ b o,H b=some o→H' b=some o
theorem Same.refl (H:Hp):Same H H:=fun _ _ h=>h
theorem Same.trans {H H1 H2:Hp} (a:Same H H1) (b:Same H1 H2):Same H H2:=fun c o h=>b c o (a c o h)
theorem Same.free {H H':Hp} (e:Same H H') {l:Addr} (h:H' l=Option.none):H l=Option.none:=by
 cases q:H l with
 | none=>rfl
 | some o=>
  rw [e l o q] at h
  cases h
end L2
namespace L2
open PySem PySem.Spec PyProof.Rows
section
variable {κ:Type} [DecidableEq κ]
def valV (kvs:List (κ × V)) (k:κ):Option V:=(kvs.find? fun kv=>decide (kv.1=k)).map (·.2)
def putK (kvs:List (κ × V)) (k:κ) (v:V):List (κ × V):=
 if (kvs.any fun kv=>decide (kv.1=k))=true then kvs.map (fun kv=>if kv.1=k then (kv.1,v) else kv) else kvs ++ [(k,v)]
theorem valV_pos {p:κ × V} {r:List (κ × V)} {k:κ} (e:p.1=k):valV (p :: r) k=some p.2:=by simp [valV,List.find?_cons,e]
theorem valV_neg {p:κ × V} {r:List (κ × V)} {k:κ} (e:¬ p.1=k):valV (p :: r) k=valV r k:=by simp [valV,List.find?_cons,e]
theorem length_putK (kvs:List (κ × V)) (k:κ) (v:V):(putK kvs k v).length≤kvs.length+1:=by
 unfold putK
 split
 ·rw [List.length_map]; omega
 ·rw [List.length_append,List.length_cons,List.length_nil]; omega
theorem RelO.getD {o:Option V} {u:Option Value} {d:V} {d':Value} (r:RelO o u) (rd:RelV d d'):RelV (o.getD d) (u.getD d'):=by
 cases o with
 | none=>cases u with
  | none=>exact rd
  | some _=>exact (show False from r).elim
 | some _=>cases u with
  | none=>exact (show False from r).elim
  | some _=>exact r
theorem KV.val {kvs:List (κ × V)} {vs:List (κ × Value)} (r:KV kvs vs) (k:κ):RelO (valV kvs k) (valueAt vs k):=by
 unfold KV at r
 induction r with
 | nil=>exact True.intro
 | @cons p q ps qs h t ih=>
  obtain ⟨h1,h2⟩:=h
  by_cases e:p.1=k
  ·have e':q.1=k:=h1.symm.trans e
   have b:valueAt (q :: qs) k=some q.2:=by simp [valueAt,List.find?_cons,e']
   rw [valV_pos e,b]; exact h2
  ·have e':¬ q.1=k:=fun z=>e (h1.trans z)
   have b:valueAt (q :: qs) k=valueAt qs k:=by simp [valueAt,List.find?_cons,e']
   rw [valV_neg e,b]; exact ih
theorem KV.any {kvs:List (κ × V)} {vs:List (κ × Value)} (r:KV kvs vs) (k:κ):(kvs.any fun kv=>decide (kv.1=k))=vs.any fun kv=>decide (kv.1=k):=by
 unfold KV at r
 induction r with
 | nil=>rfl
 | cons h t ih=>rw [List.any_cons,List.any_cons,ih,h.1]
theorem KV.repl {kvs:List (κ × V)} {vs:List (κ × Value)} (r:KV kvs vs) (k:κ) {y:V} {u:Value} (ry:RelV y u) :
  KV (kvs.map fun kv=>if kv.1=k then (kv.1,y) else kv) (vs.map fun kv=>if kv.1=k then (kv.1,u) else kv):=by
 unfold KV at r ⊢
 induction r with
 | nil=>exact .nil
 | @cons p q ps qs h t ih=>
  rw [List.map_cons,List.map_cons]
  refine .cons ?_ ih
  obtain ⟨h1,h2⟩:=h
  by_cases e:p.1=k
  ·rw [if_pos e,if_pos (h1.symm.trans e)]; exact ⟨h1,ry⟩
  ·rw [if_neg e,if_neg (fun z=>e (h1.trans z))]; exact ⟨h1,h2⟩
theorem KV.put {kvs:List (κ × V)} {vs:List (κ × Value)} (r:KV kvs vs) (k:κ) {y:V} {u:Value} (ry:RelV y u):KV (putK kvs k y) (stored vs k u):=by
 unfold putK stored
 rw [r.any k]
 by_cases e:(vs.any fun kv=>decide (kv.1=k))=true
 ·rw [if_pos e,if_pos e]; exact r.repl k ry
 ·rw [if_neg e,if_neg e]; exact Paired.snoc r ⟨rfl,ry⟩
end
theorem kV_is {P:Program} {w:World} {k:Key} {u:Value} (r:RelV (kV k) u):(mixKind P w).is k u=true:=by
 cases k with
 | inl i=>obtain ⟨t,e⟩:=(show ∃ t,u=Value.int i t from r); subst e; exact mixKind_int P w i t
 | inr x=>obtain ⟨t,e⟩:=(show ∃ t,u=Value.str x t from r); subst e; exact mixKind_str P w x t
theorem items_are {P:Program} {w:World}:∀ {ks:List Key} {us:List Value},Vals (ks.map kV) us→ItemsAre (mixKind P w) ks us
 | [],_,r=>by rw [List.map_nil] at r; cases r; exact .nil
 | k :: ks,_,r=>by
  rw [List.map_cons] at r
  cases r with
  | cons h t=>exact .cons (kV_is h) (items_are t)
abbrev KT (H:Hp):List (List Key × V)→List (List Key × Addr × Value)→Prop:=Paired fun p q=>p.1=q.1∧H q.2.1=some (.tup (p.1.map kV))∧RelV p.2 q.2.2
theorem KT.val {H:Hp} {kvs:List (List Key × V)} {xs:List (List Key × Addr × Value)} (r:KT H kvs xs) (k:List Key):RelO (valV kvs k) ((atKey xs k).map (·.2)):=by
 induction r with
 | nil=>exact True.intro
 | @cons p q ps qs h t ih=>
  obtain ⟨h1,_,h2⟩:=h
  by_cases e:p.1=k
  ·have e':q.1=k:=h1.symm.trans e
   have b:atKey (q :: qs) k=some q.2:=by simp [atKey,List.find?_cons,e']
   rw [valV_pos e,b]; exact h2
  ·have e':¬ q.1=k:=fun z=>e (h1.trans z)
   have b:atKey (q :: qs) k=atKey qs k:=by simp [atKey,List.find?_cons,e']
   rw [valV_neg e,b]; exact ih
section
variable {P:Program} {w:World} {H:Hp} {h:Heap} {a:Addr}
theorem rd_of {u:HO} (ok:HOk P w H h) (e:Rd H a u):ObjOk P w H h a u:=e.ok ok
theorem dk_rd {kvs:List (Key × V)} (ok:HOk P w H h) (e:Rd H a (.dK kvs)):kvs.length≤sizeLine∧(a==sysModules)=false∧∃ vs,KV kvs vs∧h.DictOf (mixKind P w) a vs:=
 show ObjOk P w H h a (.dK kvs) from rd_of ok e
theorem dk_of {kvs:List (Key × V)} (ok:HOk P w H h) (e:H a=some (.dK kvs)):kvs.length≤sizeLine∧(a==sysModules)=false∧∃ vs,KV kvs vs∧h.DictOf (mixKind P w) a vs:=dk_rd ok (.inl e)
theorem key_of {ks:List Key} (ok:HOk P w H h) (e:H a=some (.tup (ks.map kV))):(tupleKind (mixKind P w)).is h ks a:=by
 obtain ⟨_,its,r,o,h1,h2,n,h3⟩:=(show ObjOk P w H h a (.tup (ks.map kV)) from ok a _ e)
 exact ⟨o,its.toArray,n,h1,h2,h3,by simpa using items_are r⟩
theorem dt_rd {kvs:List (List Key × V)} (ok:HOk P w H h) (e:Rd H a (.dT kvs)):kvs.length≤sizeLine∧(a==sysModules)=false∧
  ∃ xs,KT H kvs xs∧h.DictOfH (tupleKind (mixKind P w)) a xs:=by
 obtain ⟨z,y,xs,r,o,es,ep,h1,h2,h3,h4,h5⟩:=(show ObjOk P w H h a (.dT kvs) from rd_of ok e)
 refine ⟨z,y,xs,r,o,es,ep,h1,h2,h3,h4,fun x hx=>?_,h5⟩
 have all:∀ {l:List (List Key × V)} {m:List (List Key × Addr × Value)},KT H l m→∀ x∈m,(tupleKind (mixKind P w)).is h x.1 x.2.1:=by
  intro l m q
  induction q with
  | nil=>intro x hx; exact nomatch hx
  | @cons p q ps qs hq t ih=>
   intro x hx
   rcases List.mem_cons.mp hx with e | hx
   ·subst e
    exact key_of ok (by rw [← hq.1]; exact hq.2.1)
   ·exact ih x hx
 exact all r x hx
end
def DGet (H:Hp) (a:Addr) (y:V) (r:Option V):Prop:=
 (∃ kvs k,Rd H a (.dK kvs)∧y=kV k∧r=valV kvs k)∨∃ kvs k b,Rd H a (.dT kvs)∧y=.ref b∧H b=some (.tup (k.map kV))∧r=valV kvs k
section
variable {X:Cx} {pins:List (Addr × Obj)} {σ:St} {H:Hp} {s:Shared} {a:Addr} {y v:V} {u r:Value} {o:Option V} {A:Around} {E:Value→Shared→Prop}
theorem Inv.big (I:Inv X pins σ H s):sysModules < s.heap.objs.size:=by
 have h:mainGlobals < s.heap.objs.size:=(I.mod.glob.keeps I.bk).lt
 exact Nat.lt_trans (by decide) h
theorem d_write {h':Heap} {t':Nat} {ob:HO} (I:Inv X pins σ H s) (mu:Mut (H a)) (hs:Heap.SameBut a s.heap h') (he:∃ q,h'.get? a=some q) (new:ObjOk X.prog X.w (upd H a ob) h' a ob) :
  Inv X pins σ (upd H a ob) { s with heap:=h',toks:=t' }:=
 I.write (x:=a) (e:=a) mu (.inl rfl) (fun b q hb z=>(hs.2 b hb).trans z) he new
theorem dk_new {P:Program} {w:World} {H':Hp} {h':Heap} {kvs:List (Key × V)} {vs:List (Key × Value)} (z:kvs.length≤sizeLine) (hd:(a==sysModules)=false) (rel:KV kvs vs) (dd:h'.DictOf (mixKind P w) a vs) :
  ObjOk P w H' h' a (.dK kvs):=⟨z,hd,vs,rel,dd⟩
end
section
variable {X:Cx} {pins:List (Addr × Obj)} {σ:St} {H:Hp} {s:Shared} {a:Addr} {kvs:List (Key × V)} {k:Key} {u:Value} {A:Around} {E:Value→Shared→Prop}
end
def NoSl (i:Expr):Prop:=∀ ov iv,subscripted i false ov iv=operate [ov,iv] (getItem ov iv)
theorem subD_of {prog:Program} {w:World} {A:Around} {E:Value→Shared→Prop} {s:Shared} {env:Env} {value slice:Expr} {pos:Pos} {T id:String} {Q:Value→Shared→Prop}
  (hl:typeLookup (.type T) "__getitem__" = pure (some (.builtin id))) (hs:NoSl slice)
  (h:wpAny (model prog w) A (eval value env) (fun o s₁=>wpAny (model prog w) A (eval slice env) (fun i s₂=>s₂.TypeIs o T∧wpAny (model prog w) A (getItem o i) Q E s₂) E s₁) E s) :
  wpAny (model prog w) A (eval (.Subscript value slice pos) env) Q E s:=by
 refine Subscript_ (wpAny_mono h (fun o s₁ h₁=>wpAny_mono h₁ (fun i s₂ h₂=>?_) fun _ _ x=>x) fun _ _ x=>x)
 obtain ⟨hT,h₂⟩:=h₂
 unfold subscriptTail
 refine wpAny_bind ?_
 rw [getitemInPython_of_ne hT.not_modules]
 refine wpAny_bind (wpAny_specialOf hT hl ?_)
 have fin:wpAny (model prog w) A (subscripted slice false o i) (fun r s₃=>wpAny (model prog w) A (letTemporaryGo value o r >>= fun _=>pure r) Q E s₃) E s₂:=by
  rw [hs o i]
  exact wpAny_operating (wpAny_mono h₂ (fun r s₃ h₃=>wpAny_bind (wpAny_letTemporaryGo (wpAny_pure h₃))) fun _ _ x=>x)
 first
  | exact wpAny_pure (wpAny_bind fin)
  | exact wpAny_bind (wpAny_pure (wpAny_bind fin))
  | exact wpAny_bind fin
section
variable {X:Cx} {o i e value:Expr} {pos pos' tpos:Pos} {td ty tv:TE}
end
theorem dk_empty {P:Program} {w:World} {H:Hp} (h:Heap) (hb:sysModules < h.objs.size):ObjOk P w H (h.push { cls:=.type "dict",data:=.dict #[] }) h.objs.size (.dK []):=
 ⟨Nat.zero_le _,beq_eq_false_iff_ne.mpr (Ne.symm (Nat.ne_of_lt hb)),[],.nil,Heap.DictOf.new h⟩
section
variable {X:Cx} {pos:Pos}
end
def tPairs:List (TE × TE)→St→Hp→(List (V × V)→Hp→Prop)→Prop
 | [],_,H,Q=>Q [] H
 | (tk,tv) :: r,σ,H,Q=>tk σ H fun x H1=>tv σ H1 fun y H2=>tPairs r σ H2 fun ps H3=>Q ((x,y) :: ps) H3
abbrev VV:List (V × V)→List (Value × Value)→Prop:=Paired fun p q=>RelV p.1 q.1∧RelV p.2 q.2
def PPs (X:Cx) (pos:Pos) (keys:List (Option Expr)) (values:List Expr) (trs:List (TE × TE)):Prop:=
 ∀ (pins:List (Addr × Obj)) (s:Shared) (σ:St) (H:Hp) (Q:List (V × V)→Hp→Prop),Inv X pins σ H s→tPairs trs σ H Q→
  wpAny (model X.prog X.w) X.A (evalPairs (pairTrees keys values X.env pos)) (fun vs s'=>∃ ps H',Inv X pins σ H' s'∧VV ps vs∧Q ps H') X.xe s
theorem pps_nil {X:Cx} {pos:Pos}:PPs X pos [] [] []:=fun pins s σ H Q I h=>pairTrees_nil_walk ⟨[],H,I,.nil,h⟩
theorem pps_cons {X:Cx} {pos:Pos} {k v:Expr} {ks:List (Option Expr)} {vs:List Expr} {tk tv:TE} {trs:List (TE × TE)} (hk:PE X k tk) (hv:PE X v tv) (hr:PPs X pos ks vs trs) :
  PPs X pos (some k :: ks) (v :: vs) ((tk,tv) :: trs):=fun pins s σ H Q I h=>
 pairTrees_cons_walk (thn (hk pins s σ H _ I h) fun u s1 ⟨x,H1,I1,rx,q1⟩=>thn (hv pins s1 σ H1 _ I1 q1) fun w2 s2 ⟨y,H2,I2,ry,q2⟩=>
  thn (hr pins s2 σ H2 _ I2 q2) fun ws s3 ⟨ps,H3,I3,rel,q3⟩=>⟨(x,y) :: ps,H3,I3,.cons ⟨rx,ry⟩ rel,q3⟩)
def mergeK (kvs more:List (Key × V)):List (Key × V):=more.foldl (fun acc kv=>putK acc kv.1 kv.2) kvs
theorem KV.merge:∀ {more:List (Key × V)} {rs:List (Key × Value)} {kvs:List (Key × V)} {vs:List (Key × Value)},KV more rs→KV kvs vs→KV (mergeK kvs more) (merged vs rs):=by
 intro more rs kvs vs r
 unfold KV at r
 induction r generalizing kvs vs with
 | nil=>intro q; exact q
 | @cons p q ps qs h t ih=>
  intro r0
  have e:KV (putK kvs p.1 p.2) (stored vs q.1 q.2):=by
   have:=r0.put p.1 h.2
   rw [← h.1]; exact this
  exact ih e
theorem length_mergeK:∀ (more kvs:List (Key × V)),(mergeK kvs more).length≤kvs.length+more.length
 | [],kvs=>by show kvs.length≤kvs.length+0; omega
 | p :: r,kvs=>by
  have h1:=length_mergeK r (putK kvs p.1 p.2)
  have h2:=length_putK kvs p.1 p.2
  show (mergeK (putK kvs p.1 p.2) r).length≤_
  rw [List.length_cons]; omega
theorem carries_of {P:Program} {w:World}:∀ {kvs:List (Key × V)} {ws:List (Value × Value)},VV (kvs.map fun kv=>(kV kv.1,kv.2)) ws→∃ rs,Carries (mixKind P w) ws rs∧KV kvs rs
 | [],_,r=>by rw [List.map_nil] at r; cases r; exact ⟨[],True.intro,.nil⟩
 | p :: kvs,_,r=>by
  rw [List.map_cons] at r
  cases r with
  | @cons a b as bs h t=>
   obtain ⟨rs,c,q⟩:=carries_of (P:=P) (w:=w) t
   obtain ⟨b1,b2⟩:=b
   exact ⟨(p.1,b2) :: rs,⟨kV_is h.1,rfl,c⟩,.cons ⟨rfl,h.2⟩ q⟩
def tDisp (trs:List (TE × TE)):TE:=fun σ H Q=>∀ p,H p=none→tPairs trs σ (upd H p (.dK [])) fun ps H2=>H2 p=some (.dK [])∧∃ kvs:List (Key × V),ps=kvs.map (fun kv=>(kV kv.1,kv.2))∧kvs.length≤15∧Q (.ref p) (upd H2 p (.dK (mergeK [] kvs)))
theorem pe_disp {X:Cx} {pos:Pos} {keys:List (Option Expr)} {values:List Expr} {trs:List (TE × TE)} (h:PPs X pos keys values trs) (hall:keys.all (·.isSome)=true) (hl:keys.length=values.length) (h0:keys≠[])
  (h15:keys.length≤15):PE X (.Dict keys values pos) (tDisp trs):=by
 intro pins s σ H Q I q
 have hn:=I.hok.fresh (Nat.le_refl s.heap.objs.size)
 have I1:=I.laid (a:=s.heap.objs.size) (o:=.dK []) (h':=s.heap.push { cls:=.type "dict",data:=.dict #[] }) (t':=s.toks) (fun _ _ q=>Heap.get?_push_of_some _ q) (Nat.le_refl _) (dk_empty s.heap I.big)
 refine wpAny_Dict_walk (knd:=mixKind X.prog X.w) hall hl h0 h15 (thn (h pins _ σ _ _ I1 (q _ hn)) fun ws s2 ⟨ps,H2,I2,rel,e,kvs,ep,lk,q2⟩=>?_)
 subst ep
 obtain ⟨rs,c,rk⟩:=carries_of (P:=X.prog) (w:=X.w) rel
 obtain ⟨z,hd,vs0,r0,dd⟩:=dk_of I2.hok e
 cases r0
 refine ⟨rs,c,dd,fun h' dd' hs=>⟨.ref s.heap.objs.size,_,?_,rfl,q2⟩⟩
 have hz:(mergeK [] kvs).length≤sizeLine:=by
  have h1:=length_mergeK kvs []
  rw [List.length_nil] at h1
  rw [sizeLine_eq]; omega
 have he:∃ q,h'.get? s.heap.objs.size=some q:=let ⟨q,_,_,hq,_⟩:=dd'; ⟨q,hq⟩
 exact d_write I2 (by rw [e]; exact True.intro) hs he (dk_new hz hd (rk.merge .nil) dd')
structure M1 (X:Cx) (o:Expr) (m:Str) (apos:Pos) (e:Expr) (cpos:Pos):Prop where
 base:attributeBase o m X.env (eval o X.env)=eval o X.env
 few:((backTo cpos (starEach [e] X.env)).all (fun x=>!x.1) && (backToKw cpos (keywordEach [] X.env)).all (fun x=>x.1.isSome)
  && decide (([e]:List Expr).length+([]:List Keyword).length+(if ([]:List Keyword).isEmpty then 0 else 1) < 30))=true
 line:(apos.endLine==cpos.line)=true
 trees:backTo cpos (starEach [e] X.env)=[(false,eval e X.env)]
structure M2 (X:Cx) (o:Expr) (m:Str) (apos:Pos) (e f:Expr) (cpos:Pos):Prop where
 base:attributeBase o m X.env (eval o X.env)=eval o X.env
 few:((backTo cpos (starEach [e,f] X.env)).all (fun x=>!x.1) && (backToKw cpos (keywordEach [] X.env)).all (fun x=>x.1.isSome)
  && decide (([e,f]:List Expr).length+([]:List Keyword).length+(if ([]:List Keyword).isEmpty then 0 else 1) < 30))=true
 line:(apos.endLine==cpos.line)=true
 trees:backTo cpos (starEach [e,f] X.env)=[(false,eval e X.env),(false,eval f X.env)]
def IsD (H:Hp) (a:Addr):Prop:=(∃ kvs,Rd H a (.dK kvs))∨∃ kvs,Rd H a (.dT kvs)
theorem isD_at {X:Cx} {pins:List (Addr × Obj)} {σ:St} {H:Hp} {s:Shared} {a:Addr} (I:Inv X pins σ H s) (d:IsD H a) :
  s.TypeIs (.ref a) "dict"∧(∀ b,Value.ref a=.ref b→∃ ob,s.heap.get? b=some ob∧ob.dict=none)∧(a==sysModules)=false:=by
 rcases d with ⟨kvs,e⟩ | ⟨kvs,e⟩
 ·obtain ⟨_,hd,vs,_,dd⟩:=dk_rd I.hok e
  refine ⟨dd.typeIs,fun b q=>?_,hd⟩
  cases q
  obtain ⟨ob,_,_,h1,h2,_⟩:=dd
  exact ⟨ob,h1,h2.2.1⟩
 ·obtain ⟨_,hd,xs,_,dd⟩:=dt_rd I.hok e
  refine ⟨dd.typeIs,fun b q=>?_,hd⟩
  cases q
  obtain ⟨ob,_,_,h1,h2,_⟩:=dd
  exact ⟨ob,h1,h2.2.1⟩
section
variable {X:Cx} {pins:List (Addr × Obj)} {σ:St} {H:Hp} {s:Shared} {a:Addr} {y d:V} {u r:Value} {o:Option V} {A:Around} {E:Value→Shared→Prop}
theorem d_get2 {Q:Value→Shared→Prop} (hu:A.units+1 < cLine) (I:Inv X pins σ H s) (g:DGet H a y o) (ry:RelV y u) (rd:RelV d r) (h:∀ w' s',Inv X pins σ H s'→RelV (o.getD d) w'→Q w' s') :
  wpAny (model X.prog X.w) A (call (.builtin "dict.get") [.ref a,u,r]) Q E s:=by
 rcases g with ⟨kvs,k,e,ey,l⟩ | ⟨kvs,k,b,e,ey,eb,l⟩
 ·subst ey
  obtain ⟨z,hd,vs,rel,dd⟩:=dk_rd I.hok e
  refine call_meetsIn PySem.F.slot_dict_get dd.typeIs PySem.F.entry_dict_get (PySem.F.args_dict_get_3 _ _ _) (meets_dict_get_default (mixKind X.prog X.w) a (kV_is ry) hd r) ⟨_,dd.mapOf,h _ _ (I.tok _) ?_⟩
  rw [l]
  exact (rel.val k).getD rd
 ·subst ey
  cases (show u=Value.ref b from ry)
  obtain ⟨z,hd,xs,rel,dd⟩:=dt_rd I.hok e
  refine call_meetsIn PySem.F.slot_dict_get dd.typeIs PySem.F.entry_dict_get (PySem.F.args_dict_get_3 _ _ _) (meetsH_dict_get_default (tupleKind (mixKind X.prog X.w)) a b hd r) ⟨tupleKind_room_in1 hu,k,xs,key_of I.hok eb,dd,h _ _ (I.tok _) ?_⟩
  rw [l]
  exact (rel.val k).getD rd
end
def tDGet2 (td ty tx:TE):TE:=fun σ H Q=>td σ H fun x H1=>∃ a,x=.ref a∧IsD H1 a∧ty σ H1 fun y H2=>tx σ H2 fun z H3=>∃ o,DGet H3 a y o∧Q (o.getD z) H3
section
variable {X:Cx} {o e f:Expr} {apos cpos:Pos} {td ty tx:TE}
theorem pe_dget2 (hu:X.A.units+1 < cLine) (ho:PE X o td) (he:PE X e ty) (hf:PE X f tx) (m:M2 X o "get" apos e f cpos):PE X (.Call (.Attribute o "get" apos) [e,f] [] cpos) (tDGet2 td ty tx):=by
 intro pins s σ H Q I h
 refine wpAny_Call_method m.base m.few m.line PySem.F.plainAttrs_dict PySem.F.slot_dict_get PySem.F.type_dict_get (thn (ho pins s σ H _ I h) fun u s1 ⟨x,H1,I1,rx,a,ex,d,q1⟩=>?_)
 subst ex
 obtain rfl:u=Value.ref a:=rx
 obtain ⟨t1,t2,_⟩:=isD_at I1 d
 refine ⟨t1,t2,?_⟩
 rw [m.trees]
 refine Calls.callWith_builtin rfl (Calls.evalArgs_plain (Calls.spliced_cons (thn (he pins s1 σ H1 _ I1 q1) fun iv s2 ⟨y,H2,I2,ry,q2⟩=>
  Calls.spliced_cons (thn (hf pins s2 σ H2 _ I2 q2) fun fv s3 ⟨z,H3,I3,rz,ov,g,q3⟩=>Calls.spliced_nil ?_))))
 exact d_get2 hu I3 g ry rz fun w' s4 I4 rw'=>⟨_,H3,I4,rw',q3⟩
end
end L2
namespace L2
open PySem PySem.Spec PyProof.Rows
def clOf (env:Env):List (Str × NameKind)→List (Str × Addr)→List (Str × Addr)
 | [],acc=>acc
 | (n,.free) :: r,acc=>clOf env r ((n,(env.cells.lookup n).getD 0) :: acc)
 | _ :: r,acc=>clOf env r acc
def ClGood (env:Env) (acc:List (Str × Addr)):Prop:=∀ y c,acc.lookup y=some c→c=(env.cells.lookup y).getD 0
theorem clOf_skip {env:Env} {n:Str} {k:NameKind} {r:List (Str × NameKind)} {acc:List (Str × Addr)} (h:k≠.free):clOf env ((n,k) :: r) acc=clOf env r acc:=by
 cases k <;> first | rfl | exact absurd rfl h
theorem clOf_good {env:Env}:∀ (names:List (Str × NameKind)) (acc:List (Str × Addr)),ClGood env acc→ClGood env (clOf env names acc)
 | [],acc,h=>h
 | (n,k) :: r,acc,h=>by
  by_cases hk:k=.free
  ·subst hk
   refine clOf_good r _ fun y c e=>?_
   rw [List.lookup_cons] at e
   by_cases hy:y=n
   ·subst hy
    simp only [beq_self_eq_true] at e
    exact (Option.some.inj e).symm
   ·have hb:(y==n)=false:=by simpa using hy
    rw [hb] at e
    exact h y c e
  ·rw [clOf_skip hk]
   exact clOf_good r acc h
theorem clOf_has {env:Env} {x:Str}:∀ (names:List (Str × NameKind)) (acc:List (Str × Addr)),((∃ c,acc.lookup x=some c)∨(x,NameKind.free)∈names)→∃ c,(clOf env names acc).lookup x=some c
 | [],acc,h=>by
  rcases h with h | h
  ·exact h
  ·cases h
 | (n,k) :: r,acc,h=>by
  by_cases hk:k=.free
  ·subst hk
   refine clOf_has r _ ?_
   rw [List.lookup_cons]
   by_cases hy:x=n
   ·subst hy
    exact .inl ⟨(env.cells.lookup x).getD 0,by simp only [beq_self_eq_true]⟩
   ·have hb:(x==n)=false:=by simpa using hy
    rw [hb]
    rcases h with h | h
    ·exact .inl h
    ·rcases List.mem_cons.mp h with h | h
     ·exact absurd (congrArg Prod.fst h) hy
     ·exact .inr h
  ·rw [clOf_skip hk]
   refine clOf_has r acc ?_
   rcases h with h | h
   ·exact .inl h
   ·rcases List.mem_cons.mp h with h | h
    ·exact absurd (congrArg Prod.snd h).symm hk
    ·exact .inr h
theorem clOf_mem {env:Env} {x:Str} {c:Addr}:∀ (names:List (Str × NameKind)) (acc:List (Str × Addr)),(clOf env names acc).lookup x=some c→acc.lookup x=some c∨(x,NameKind.free)∈names
 | [],acc,h=>.inl h
 | (n,k) :: r,acc,h=>by
  by_cases hk:k=.free
  ·subst hk
   rcases clOf_mem r _ h with h1 | h1
   ·rw [List.lookup_cons] at h1
    by_cases hy:x=n
    ·subst hy
     exact .inr List.mem_cons_self
    ·have hb:(x==n)=false:=by simpa using hy
     rw [hb] at h1
     exact .inl h1
   ·exact .inr (List.mem_cons_of_mem _ h1)
  ·rw [clOf_skip hk] at h
   rcases clOf_mem r acc h with h1 | h1
   ·exact .inl h1
   ·exact .inr (List.mem_cons_of_mem _ h1)
theorem forIn_cl {env:Env} {f:Str × NameKind→List (Str × Addr)→Sem (ForInStep (List (Str × Addr)))} (h1:∀ n k r,k≠NameKind.free→f (n,k) r=pure (.yield r))
  (h2:∀ n r c,env.cells.lookup n=some c→f (n,.free) r=pure (.yield ((n,c) :: r))) :
  ∀ (names:List (Str × NameKind)) (acc:List (Str × Addr)),(∀ y∈names,y.2=NameKind.free→∃ c,env.cells.lookup y.1=some c)→forIn names acc f=pure (clOf env names acc)
 | [],acc,_=>rfl
 | (n,k) :: r,acc,hc=>by
  have hr:∀ y∈r,y.2=NameKind.free→∃ c,env.cells.lookup y.1=some c:=fun y hy=>hc y (List.mem_cons_of_mem _ hy)
  rw [List.forIn_cons]
  by_cases hk:k=.free
  ·subst hk
   obtain ⟨c,e⟩:=hc (n,.free) List.mem_cons_self rfl
   rw [h2 n acc c e,pure_bind]
   show forIn r ((n,c) :: acc) f=_
   rw [forIn_cl h1 h2 r _ hr]
   show _=pure (clOf env r ((n,(env.cells.lookup n).getD 0) :: acc))
   rw [e]
   rfl
  ·rw [h1 n k acc hk,pure_bind,clOf_skip hk]
   exact forIn_cl h1 h2 r acc hr
theorem closure_is {env:Env} {scope:Scope} (hc:∀ y∈scope.names,y.2=NameKind.free→∃ c,env.cells.lookup y.1=some c):closureFor scope env=pure (clOf env scope.names []):=by
 unfold closureFor
 dsimp only
 rw [forIn_cl (env:=env) ?_ ?_ scope.names [] hc]
 ·rfl
 ·intro n k r hk
  have hb:(k==NameKind.free)=false:=by simpa using hk
  simp only [hb,Bool.false_eq_true,if_false]
 ·intro n r c e
  simp only [cellOf,e,beq_self_eq_true,if_true,pure_bind]
structure CompOk (sc:Scope) (Nm own:List Str) (fr:List Nat) (scope:Scope):Prop where
 kind:scope.kind=.function
 nocell:∀ y∈scope.names,y.2≠NameKind.cell
 free:∀ y∈scope.names,y.2=NameKind.free→sc.names.lookup y.1=some .cell∨sc.names.lookup y.1=some .free
 locs:∀ y∈scope.names,y.2=NameKind.local→scope.names.lookup y.1=some .local
 frs:∀ j∈fr,j < Nm.length∧scope.names.lookup (Nm.getD j "")=some .free
def inNm (own Nm:List Str) (fr:List Nat):List Str:=own ++ fr.map fun j=>Nm.getD j ""
def inSt (n:Nat) (fr:List Nat) (σ:St):St:=List.replicate n none ++ fr.map fun j=>σ.getD j none
structure CD where
 cl:List (Str × Addr)
 C:Addr
 s:Shared
 H:Hp
 fp:List Addr
def compCx (X:Cx) (Nm:List Str) (scope:Scope) (d:CD):Cx:=
 {prog:=X.prog,w:=X.w,K:=X.K,mg:=X.mg,base:=X.base,A:=X.A,N:=Nm,s₀:=d.s,H₀:=d.H,env:=compEnvC scope d.cl d.C X.env,outer:=X.stack,stack:=X.stack,
  ex:=d.fp,fn:=fun _=>false,calm:=X.calm,pn:=[],xe:=fun _ _=>False }
def PTs (X:Cx) (ifs:List Expr) (t:TT):Prop:=
 ∀ (pins:List (Addr × Obj)) (s:Shared) (σ:St) (H:Hp) (Q:Bool→Hp→Prop),Inv X pins σ H s→t σ H Q→
  wpAny (model X.prog X.w) X.A (forIn ifs true fun c r=>if r=true then do let ok ← isTrue c X.env (eval c X.env); pure (ForInStep.yield ok) else pure (ForInStep.yield r)) (TP X pins σ Q) X.xe s
def tYes:TT:=fun _ H Q=>Q true H
theorem pts_nil {X:Cx}:PTs X [] tYes:=by
 intro pins s σ H Q I h
 rw [List.forIn_nil]
 exact wpAny_pure ⟨H,I,h⟩
def GFr (n:Nat) (g:TG):Prop:=∀ v σ H Q,g v σ H Q→g v σ H fun σ2 H2=>Q σ2 H2∧σ2.length=σ.length∧∀ i,n≤i→σ2[i]? = σ[i]?
theorem gfr_name {n i:Nat} (h:i < n):GFr n (gName i):=fun v σ H Q q=>⟨q,by simp,fun j hj=>by
 rw [List.getElem?_set_ne (by omega)]⟩
def CompW (J:It) (n:Nat) (fr:List Nat) (g:TG) (tt:TT) (te:TE) (σ:St) (H1:Hp) (Q:VK):Prop:=∃ W:Nat→Nat→List V→Hp→Prop,(∃ m,W 0 m [] H1)∧∀ i m acc H2,W i m acc H2→
 acc.length < sizeLine∧((J.stop i H2∧∀ l,H2 l=none→Q (.ref l) (upd H2 l (.lst acc)))∨
  (J.go i H2∧∃ Nx:List V→Hp→Prop,(∀ acc' H',Nx acc' H'→∃ m',m' < m∧W (i+1) m' acc' H')∧
   ∀ x H3,J.yld i H2 x H3→g x (inSt n fr σ) H3 fun σ4 H4=>tt σ4 H4 fun b H5=>if b=true then te σ4 H5 fun v H6=>Nx (acc ++ [v]) H6 else Nx acc H5))
def tComp (n:Nat) (fr:List Nat) (wi:TI) (g:TG) (tt:TT) (te:TE):TE:=fun σ H Q=>wi σ H fun J H1=>CompW J n fr g tt te σ H1 Q
section
variable {X:Cx} {pins:List (Addr × Obj)} {σ:St} {H:Hp} {s:Shared}
theorem Inv.adopt {a:Addr} {o:HO} (I:Inv X pins σ H s) (hp:X.s₀.heap.objs.size≤a) (hn:H a=none) (hL:a≠X.env.locals) (hc:∀ x c,X.env.cells.lookup x=some c→c≠a)
  (hq:∀ p∈X.pn ++ pins,p.1≠a) (new:ObjOk X.prog X.w (upd H a o) s.heap a o):Inv X pins σ (upd H a o) s:=by
 refine ⟨I.ok,I.os,I.bare,⟨I.base.keep,I.base.slot,fun b ob e n hx=>?_,I.base.there,fun b xs e=>?_,fun b ob u e=>?_,fun b ps e=>?_⟩,I.loc,I.cell,?_,fun x c e=>?_,fun p hp'=>?_,fun b u e=>?_,I.len⟩
 ·rw [upd_ne (Nat.ne_of_lt (Nat.lt_of_lt_of_le (Heap.lt_size e) hp))]
  exact I.base.free b ob e n hx
 ·have q:=I.base.tups b xs e
  rw [upd_ne (ne_of_none q hn)]
  exact q
 ·have q:=I.base.frzs b ob u e
  rw [upd_ne (ne_of_none q hn)]
  exact q
 ·obtain ⟨more,q⟩:=I.base.tbls b ps e
  exact ⟨more,by rw [upd_ne (ne_of_none q hn)]; exact q⟩
 ·rw [upd_ne (Ne.symm hL)]
  exact I.free
 ·rw [upd_ne (hc x c e)]
  exact I.freeC x c e
 ·obtain ⟨h1,h2,h3⟩:=I.pin p hp'
  exact ⟨h1,by rw [upd_ne (hq p hp')]; exact h2,h3⟩
 ·by_cases hb:b=a
  ·subst hb
   rw [upd_same] at e
   cases e
   exact new
  ·rw [upd_ne hb] at e
   refine (I.hok b u e).stay (fun c v _ q=>q) (fun c q=>?_) fun c xs q=>?_
   ·rw [upd_ne (ne_of_none q hn)]; exact q
   ·rw [upd_ne (ne_of_none q hn)]; exact q
end
section
variable {prog:Program} {w:World} {A:Around} {R:Result→Shared→Prop} {s:Shared}
theorem loop_comp {elt target iter:Expr} {ifs:List Expr} {scope:Scope} {pos:Pos} {it acc:Value} {env:Env} (J:Nat→Shared→Prop)
  (turn:∀ n s,J n s→wpAny (model prog w) A (pyNext it) (fun r s1=>match r with
   | none=>R (.ok .next) s1
   | some v=>wpAny (model prog w) A (letOwnedTupleGo target it v) (fun _ s2=>wpAny (model prog w) A (assign target env v) (fun _ s3=>
     wpAny (model prog w) A (forIn ifs true fun c r=>if r=true then do let ok ← isTrue c env (eval c env); pure (ForInStep.yield ok) else pure (ForInStep.yield r)) (fun ok s4=>
      if ok=true then wpAny (model prog w) A (eval elt env) (fun x s5=>wpAny (model prog w) A (call (.builtin "list.append") [acc,x]) (fun _ s6=>∃ m,m < n∧J m s6) (fun _ _=>False) s5) (fun _ _=>False) s4
      else ∃ m,m < n∧J m s4) (fun _ _=>False) s3) (fun _ _=>False) s2) (fun _ _=>False) s1) (fun _ _=>False) s)
  (n:Nat) (h:J n s):codeAny (model prog w) A (.compLoop (.ListComp elt [⟨target,iter,ifs,0⟩] scope pos) 0 it acc env) R s:=by
 refine codeAny_loop rfl J (fun k t hJ=>?_) n h
 show wpAny _ A ((compTurn (.ListComp elt [⟨target,iter,ifs,0⟩] scope pos) 0 it acc env).onRaise (fun x=>do noteFrame x env; theTreesLotGoes x)) _ _ t
 refine wpAny_noted ?_
 rw [compTurn_list]
 have no:∀ {α:Type} {m:Sem α} {Q:α→Shared→Prop} {E:Value→Shared→Prop} {u:Shared},wpAny (model prog w) A m Q (fun _ _=>False) u→wpAny (model prog w) A m Q E u:=fun q=>wpAny_mono q (fun _ _ z=>z) fun _ _ z=>z.elim
 refine wpAny_bind (wpAny_standAt (wpAny_bind (no (thn (turn k t hJ) fun r s1 h1=>?_))))
 cases r with
 | none=>exact wpAny_pure h1
 | some v=>
  refine wpAny_bind (no (thn h1 fun _ s2 h2=>wpAny_bind (no (thn h2 fun _ s3 h3=>wpAny_bind (no (thn h3 fun ok s4 h4=>?_))))))
  cases ok with
  | false=>exact wpAny_pure ⟨rfl,h4⟩
  | true=>
   exact wpAny_bind (wpAny_bind (no (thn h4 fun x s5 h5=>wpAny_bind (no (thn h5 fun _ s6 h6=>wpAny_pure (wpAny_pure ⟨rfl,h6⟩))))))
end
section
variable {X:Cx} {sc scope:Scope} {Nm own:List Str} {fr:List Nat} {elt tg iter:Expr} {ifs:List Expr} {cpos:Pos} {wi:TI} {g:TG} {tt:TT} {te:TE}
theorem lookup_relab {env:Env} {x:Str} {k:NameKind}:∀ {names:List (Str × NameKind)},(names.map fun (n,k)=>if (k==NameKind.free && env.scope.kind==.function && env.kindOf n==some .cell) then (n,NameKind.cell) else (n,k)).lookup x=some k→
  names.lookup x=some k∨(k=.cell∧names.lookup x=some .free)
 | [],h=>by simp at h
 | (n,j) :: r,h=>by
  have ih:=@lookup_relab env x k r
  have h':List.lookup x ((if (j==NameKind.free && env.scope.kind==.function && env.kindOf n==some .cell)=true then (n,NameKind.cell) else (n,j)) :: _)=some k:=h
  cases hx:x==n with
  | true=>
   by_cases hc:(j==NameKind.free && env.scope.kind==.function && env.kindOf n==some .cell)=true
   ·rw [if_pos hc] at h'
    simp only [List.lookup_cons,hx] at h' ⊢
    simp only [Bool.and_eq_true,beq_iff_eq] at hc
    exact .inr ⟨(Option.some.inj h').symm,congrArg some hc.1.1⟩
   ·rw [if_neg hc] at h'
    simp only [List.lookup_cons,hx] at h' ⊢
    exact .inl h'
  | false=>
   have h2:List.lookup x (r.map fun (n,k)=>if (k==NameKind.free && env.scope.kind==.function && env.kindOf n==some .cell) then (n,NameKind.cell) else (n,k))=some k:=by
    by_cases hc:(j==NameKind.free && env.scope.kind==.function && env.kindOf n==some .cell)=true
    ·rw [if_pos hc] at h'
     simpa only [List.lookup_cons,hx] using h'
    ·rw [if_neg hc] at h'
     simpa only [List.lookup_cons,hx] using h'
   simp only [List.lookup_cons,hx]
   exact ih h2
theorem relab_free {env:Env} {x:Str}:∀ {names:List (Str × NameKind)},names.lookup x=some .free→
  (names.map fun (n,k)=>if (k==NameKind.free && env.scope.kind==.function && env.kindOf n==some .cell) then (n,NameKind.cell) else (n,k)).lookup x=some .cell∨
  (names.map fun (n,k)=>if (k==NameKind.free && env.scope.kind==.function && env.kindOf n==some .cell) then (n,NameKind.cell) else (n,k)).lookup x=some .free
 | [],h=>by simp at h
 | (n,j) :: r,h=>by
  have ih:=@relab_free env x r
  show List.lookup x ((if (j==NameKind.free && env.scope.kind==.function && env.kindOf n==some .cell)=true then (n,NameKind.cell) else (n,j)) :: _)=_∨List.lookup x ((if (j==NameKind.free && env.scope.kind==.function && env.kindOf n==some .cell)=true then (n,NameKind.cell) else (n,j)) :: _)=_
  cases hx:x==n with
  | true=>
   simp only [List.lookup_cons,hx] at h
   by_cases hc:(j==NameKind.free && env.scope.kind==.function && env.kindOf n==some .cell)=true
   ·rw [if_pos hc]; simp only [List.lookup_cons,hx]; first | exact .inl rfl | exact .inl trivial
   ·rw [if_neg hc]; simp only [List.lookup_cons,hx]; exact .inr h
  | false=>
   simp only [List.lookup_cons,hx] at h
   by_cases hc:(j==NameKind.free && env.scope.kind==.function && env.kindOf n==some .cell)=true
   ·rw [if_pos hc]; simp only [List.lookup_cons,hx]; exact ih h
   ·rw [if_neg hc]; simp only [List.lookup_cons,hx]; exact ih h
theorem comp_core (S:CompOk sc Nm own fr scope) (hsc:X.env.scope=sc) (hN:X.N=Nm) (hc:X.calm=true) (hgf:GFr own.length g) (hi:PI X tg iter wi) (hg:∀ d,PG (compCx X (inNm own Nm fr) scope d) tg g)
  (ht:∀ d,PTs (compCx X (inNm own Nm fr) scope d) ifs tt) (he:∀ d,PE (compCx X (inNm own Nm fr) scope d) elt te) (hs:∀ x,foldedSetIterable iter X.env x=pure x)
  {use:Option (Value→Sem Unit)} {Q0:Value→Shared→Prop} {pins:List (Addr × Obj)} {s:Shared} {σ:St} {H:Hp} (I:Inv X pins σ H s) {Qf:VK} (h:tComp own.length fr wi g tt te σ H Qf)
  (hfin:∀ (D C:Addr) (Hd:Hp) (s':Shared) (m:Str→Option Value),Inv X pins σ Hd s'→Qf (.ref D) Hd→s'.heap.Ns C m→Hd C=none→X.s₀.heap.objs.size≤C→C≠X.env.locals→(∀ x c,X.env.cells.lookup x=some c→c≠C)→
   (∀ p∈X.pn ++ pins,p.1≠C)→compPost (model X.prog X.w) X.A X.xe use Q0 (.ref D) C (.ok .next) s') :
  wpAny (model X.prog X.w) X.A (comprehension (.ListComp elt [⟨tg,iter,ifs,0⟩] scope cpos) scope X.env (firstIterPos [⟨tg,iter,ifs,0⟩] cpos) (newList []) false (eval iter X.env) use) Q0 X.xe s:=by
 have hfree:∀ y∈scope.names,y.2=NameKind.free→∃ c,X.env.cells.lookup y.1=some c:=fun y hy hk=>by
  have q:=S.free y hy hk
  rw [← hsc] at q
  exact I.ok.has y.1 q
 refine wpAny_comprehension_free (g:=⟨tg,iter,ifs,0⟩) (gs:=[]) rfl hs (closure_is hfree) S.kind S.locs ?_
 refine thn (hi pins s σ H _ I h) fun v s1 h1=>thn h1 fun itv s2 h2=>?_
 obtain ⟨it,fp,tn,J,H2,e,I2,T,st2,f2,W,⟨m0,w0⟩,turn⟩:=h2
 subst e
 refine wpAny_newObj_type (wpAny_newFunctionEnv S.nocell (by intro y hy; simp at hy) (fun h1 hns hsb=>?_) S.kind)
 dsimp only at hns hsb ⊢
 generalize hG:s2.heap.push { cls:=.type "list",dict:=none,data:=.seq ([]:List Value).toArray } = G at hns hsb ⊢
 have hC:G.objs.size=s2.heap.objs.size+1:=by rw [← hG,Heap.size_push]
 have hDC:s2.heap.objs.size≠G.objs.size:=by omega
 have lo:∀ b,b < s2.heap.objs.size→b≠G.objs.size∧b≠s2.heap.objs.size:=fun b hb=>⟨by omega,by omega⟩
 have old:∀ b o,s2.heap.get? b=some o→h1.get? b=some o:=fun b o e=>hsb.extBut b o (lo b (Heap.lt_size e)).1 (Heap.get?_push_of_some _ (hG▸Heap.get?_push_of_some _ e))
 have hacc:h1.PlainList s2.heap.objs.size #[]:=⟨_,hsb.extBut _ _ hDC (Heap.get?_push_of_some _ (hG▸Heap.get?_push_size _ rfl))⟩
 have fpl:∀ b∈fp,b < s2.heap.objs.size:=fun b hb=>by
  obtain ⟨o,e,_⟩:=T.obj 0 _ st2 b hb
  exact Heap.lt_size e
 have hDf:s2.heap.objs.size∉fp:=fun z=>Nat.lt_irrefl _ (fpl _ z)
 have hCf:G.objs.size∉fp:=fun z=>Nat.lt_irrefl _ (Nat.lt_trans (fpl _ z) (by rw [hC]; exact Nat.lt_succ_self _))
 have cellL:∀ x c,(clOf X.env scope.names []).lookup x=some c→X.env.cells.lookup x=some c∧(x,NameKind.free)∈scope.names:=fun x c e=>by
  have e1:=clOf_good (env:=X.env) scope.names [] (fun y c z=>by simp at z) x c e
  rcases clOf_mem scope.names [] e with z | z
  ·simp at z
  ·obtain ⟨c',e'⟩:=hfree _ z rfl
   rw [e1,e']
   exact ⟨rfl,z⟩
 have cellLt:∀ x c,X.env.cells.lookup x=some c→c < s2.heap.objs.size:=fun x c e=>by
  obtain ⟨v,q⟩:=I2.cell x c e
  exact q.lt
 let d:CD:=⟨clOf X.env scope.names [],G.objs.size,s2,H2,fp⟩
 have isFree:∀ x,((compCx X (inNm own Nm fr) scope d).env.kindOf x=some .cell∨(compCx X (inNm own Nm fr) scope d).env.kindOf x=some .free)→scope.names.lookup x=some .free:=fun x hx=>by
  have noC:scope.names.lookup x≠some .cell:=fun z=>S.nocell _ (PySem.mem_of_lookup z) rfl
  rcases hx with hx | hx
  ·rcases lookup_relab (names:=scope.names) hx with z | z
   ·exact absurd z noC
   ·exact z.2
  ·rcases lookup_relab (names:=scope.names) hx with z | z
   ·exact z
   ·exact absurd z.1 (by decide)
 have ok:(compCx X (inNm own Nm fr) scope d).Ok:=by
  refine ⟨I.ok.mod,S.kind,I.ok.glob,I.ok.blt,?_,fun x y c e1 e2=>?_,fun x hx=>?_,fun x c z=>?_,I.ok.hd,I.ok.frames,.inl rfl,fun b hb=>⟨?_,fun x c e=>?_⟩,I2.bs,Nat.le_trans I2.ok.bsz I2.sz,fun b o e hb=>?_,fun b hb z=>?_,I2.stack,I2.stkFree⟩
  ·show s2.heap.objs.size≤G.objs.size
   omega
  ·exact I.ok.inj x y c (cellL x c e1).1 (cellL y c e2).1
  ·exact clOf_has scope.names [] (.inr (PySem.mem_of_lookup (isFree x hx)))
  ·exact absurd (show false=true from z) Bool.false_ne_true
  ·exact fun z=>hCf ((show b=G.objs.size from z)▸hb)
  ·exact (f2 b hb).2.2.2.2.1 x c (cellL x c e).1
  ·rcases (f2 b hb).2.2.2.1 with z | z
   ·exact I.ok.noex b o e z
   ·exact absurd (Nat.lt_of_lt_of_le (Heap.lt_size e) (Nat.le_trans I.ok.bsz z)) (Nat.lt_irrefl _)
  ·rcases List.mem_cons.mp (I2.stkSub b z) with z | z
   ·exact (f2 b hb).2.1 z
   ·exact (f2 b hb).2.2.1 z
 have hfrs:∀ (i:Nat) x v,(inNm own Nm fr)[i]? = some x→(inSt own.length fr σ)[i]? = some (some v)→scope.names.lookup x=some .free∧∃ j,Nm[j]? = some x∧σ[j]? = some (some v):=fun i x v e1 e2=>by
  unfold inNm at e1
  unfold inSt at e2
  by_cases hil:i < own.length
  ·rw [List.getElem?_append_left (by simpa using hil),List.getElem?_replicate,if_pos hil] at e2
   cases e2
  ·rw [List.getElem?_append_right (by omega),List.getElem?_map] at e1
   rw [List.getElem?_append_right (by simpa using hil),List.getElem?_map,List.length_replicate] at e2
   cases q:fr[i - own.length]? with
   | none=>rw [q] at e1; cases e1
   | some j=>
    rw [q] at e1 e2
    have hj:=S.frs j (List.mem_of_getElem? q)
    have e1':Nm.getD j "" = x:=Option.some.inj e1
    have e2':σ.getD j none=some v:=Option.some.inj e2
    rw [e1'] at hj
    refine ⟨hj.2,j,?_,?_⟩
    ·rw [← e1',List.getD_eq_getElem?_getD,List.getElem?_eq_getElem hj.1]
     rfl
    ·rw [List.getD_eq_getElem?_getD] at e2'
     cases q2:σ[j]? with
     | none=>rw [q2] at e2'; cases e2'
     | some z=>rw [q2] at e2'; exact congrArg some e2'
 have lenSt:(inSt own.length fr σ).length=(inNm own Nm fr).length:=by
  unfold inSt inNm
  simp
 have J0:∀ tk,Inv (compCx X (inNm own Nm fr) scope d) [] (inSt own.length fr σ) H2 { s2 with heap:=h1,toks:=tk }:=fun tk=>by
  obtain ⟨m,hn,hl⟩:=I2.loc
  refine ⟨ok,rfl,I2.bare,Un.kept old,⟨_,hns,fun i x v e1 e2 _=>?_⟩,fun x c e=>?_,I2.hok.fresh (show s2.heap.objs.size≤G.objs.size by omega),fun x c e=>I2.freeC x c (cellL x c e).1,fun p hp=>absurd (show p∈([]:List (Addr × Obj)) from hp) (by simp),I2.hok.kept old,lenSt⟩
  ·obtain ⟨hf,j,hj1,hj2⟩:=hfrs i x v e1 e2
   have kd:X.env.scope.names.lookup x=some .cell∨X.env.scope.names.lookup x=some .free:=by
    rw [hsc]
    exact S.free _ (PySem.mem_of_lookup hf) rfl
   obtain ⟨u,r,q⟩:=hl j x v (by rw [hN]; exact hj1) hj2 (kd.elim (fun z=>.inr (.inl z)) fun z=>.inr (.inr z))
   refine ⟨u,r,.inr ⟨relab_free hf,?_⟩⟩
   obtain ⟨c,e⟩:=clOf_has (env:=X.env) scope.names [] (.inr (PySem.mem_of_lookup hf))
   refine ⟨c,e,?_⟩
   rcases q with ⟨k,_⟩ | ⟨_,c',e',z⟩
   ·have k':X.env.scope.names.lookup x=some .local:=k
    rcases kd with y | y <;> rw [y] at k' <;> cases k'
   ·have:c=c':=Option.some.inj ((cellL x c e).1.symm.trans e')
    subst this
    obtain ⟨o,ho,hd⟩:=z
    exact ⟨o,old _ o ho,hd⟩
  ·obtain ⟨v,o,ho,hd⟩:=I2.cell x c (cellL x c e).1
   exact ⟨v,o,old _ o ho,hd⟩
 have stat:∀ {H':Hp} {pl:List (Addr × Obj)},(∀ b∈fp,H' b=none)→(∀ p∈pl,p.1∉fp)→∀ b∈fp,FpOk (compCx X (inNm own Nm fr) scope d) pl H' b:=fun hn hp b hb=>
  ⟨hn b hb,fun z=>hCf ((show b=G.objs.size from z)▸hb),ok.exfs b hb,.inl hb,(ok.exf b hb).2,fun p hp' z=>hp p (by simpa using (show p∈([]:List (Addr × Obj)) ++ _ from hp')) (z▸hb)⟩
 have loop:∀ tk,codeAny (model X.prog X.w) X.A (.compLoop (.ListComp elt [⟨tg,iter,ifs,0⟩] scope cpos) 0 (.ref it) (.ref s2.heap.objs.size) (compEnvC scope (clOf X.env scope.names []) G.objs.size X.env))
   (compPost (model X.prog X.w) X.A X.xe use Q0 (.ref s2.heap.objs.size) G.objs.size) { s2 with heap:=h1,toks:=tk }:=by
  intro tk
  refine loop_comp (fun n s'=>∃ i acc its H',Inv (compCx X (inNm own Nm fr) scope d) [] (inSt own.length fr σ) H' s'∧tn i s'.heap∧(∀ b∈fp,H' b=none)∧H' s2.heap.objs.size=none∧Vals acc its∧s'.heap.PlainList s2.heap.objs.size its.toArray∧W i n acc H') ?_ m0
   ⟨0,[],[],H2,J0 tk,T.keep 0 _ _ st2 fun b _ o e=>old b o e,fun b hb=>(f2 b hb).1,I2.hok.fresh (Nat.le_refl _),.nil,hacc,w0⟩
  rintro n s3 ⟨i,acc,its,H3,I3,st3,fr3,nD,va,⟨na,pa⟩,w3⟩
  have pinD:Inv (compCx X (inNm own Nm fr) scope d) [(s2.heap.objs.size,{ cls:=.type "list",data:=.seq its.toArray na })] (inSt own.length fr σ) H3 s3:=I3.pins_of fun p hp=>by
   have hp':=List.mem_singleton.mp hp
   subst hp'
   refine ⟨pa,nD,hDC,fun z=>?_,fun v z=>?_⟩
   ·have z':s2.heap.objs.size∈frs X.stack:=z
    rcases List.mem_cons.mp (I2.stkSub _ z') with y | y
    ·exact absurd I2.lt (by rw [← y]; exact Nat.lt_irrefl _)
    ·exact I2.nofs (Nat.le_refl _) y
   ·have z':Data.seq its.toArray na=Data.cell v:=z
    cases z'
  have pinsOut:∀ p∈[(s2.heap.objs.size,({ cls:=.type "list",data:=.seq its.toArray na }:Obj))],p.1∉fp:=fun p hp=>by
   rw [List.mem_singleton.mp hp]
   exact hDf
  obtain ⟨hz,alt⟩:=turn i n acc H3 w3
  rcases alt with ⟨stop,qn⟩ | ⟨go,Nx,hNx,step⟩
  ·refine thn (T.done (compCx X (inNm own Nm fr) scope d) rfl rfl rfl hc i _ s3 _ H3 _ pinD (stat fr3 pinsOut) st3 stop) fun r s4 ⟨hr,I4⟩=>?_
   subst hr
   have pD:=I4.pin (s2.heap.objs.size,{ cls:=.type "list",data:=.seq its.toArray na }) (List.mem_append_right _ (List.mem_singleton.mpr rfl))
   obtain ⟨m4,hn4,_⟩:=I4.loc
   have I5:Inv X pins σ H3 s4:=I2.call' (ch:=fp) I4.os I4.base I4.hok I4.bare fun b hb=>⟨(f2 b hb).2.2.2.1,(f2 b hb).2.1,(f2 b hb).2.2.2.2.1,(f2 b hb).2.2.2.2.2⟩
   have far:∀ a,s2.heap.objs.size≤a→X.s₀.heap.objs.size≤a∧a≠X.env.locals∧(∀ x c,X.env.cells.lookup x=some c→c≠a)∧∀ p∈X.pn ++ pins,p.1≠a:=fun a ha=>
    ⟨Nat.le_trans I2.sz ha,Nat.ne_of_gt (Nat.lt_of_lt_of_le I2.lt ha),fun x c e=>Nat.ne_of_lt (Nat.lt_of_lt_of_le (cellLt x c e) ha),fun p hp=>Nat.ne_of_lt (Nat.lt_of_lt_of_le (Heap.lt_size (I2.pin p hp).1) ha)⟩
   have fD:=far s2.heap.objs.size (Nat.le_refl _)
   have fC:=far G.objs.size (by omega)
   have I6:=I5.adopt (o:=.lst acc) fD.1 pD.2.1 fD.2.1 fD.2.2.1 fD.2.2.2 ⟨Nat.le_of_lt hz,its,na,va,pD.1⟩
   exact hfin s2.heap.objs.size G.objs.size _ s4 m4 I6 (qn _ pD.2.1) hn4 (by rw [upd_ne (Ne.symm hDC)]; exact I4.free) fC.1 fC.2.1 fC.2.2.1 fC.2.2.2
  ·refine thn (T.item (compCx X (inNm own Nm fr) scope d) rfl rfl rfl hc i _ s3 _ H3 _ pinD (stat fr3 pinsOut) st3 go) fun r s4 ⟨u,hr,h4⟩=>?_
   subst hr
   refine thn h4 fun _ s5 ⟨x,H5,I5,r5,y5,st5,fr5⟩=>?_
   have I5':=I5.pinned (stat fr5 pinsOut) (T.obj _ _ st5)
   refine thn (hg d _ s5 _ H5 x u _ I5' r5 (hgf _ _ _ _ (step x H5 y5))) fun _ s6 ⟨σ6,H6,I6,q6,l6,k6⟩=>?_
   have wk:∀ (j:Nat) v,(inSt own.length fr σ)[j]? = some (some v)→σ6[j]? = some (some v):=fun j v e=>by
    by_cases hj:j < own.length
    ·unfold inSt at e
     rw [List.getElem?_append_left (by simpa using hj),List.getElem?_replicate,if_pos hj] at e
     cases e
    ·rw [k6 j (by omega)]
     exact e
   refine thn (ht d _ s6 σ6 H6 _ I6 q6) fun b s7 ⟨H7,I7,q7⟩=>?_
   have fpK:∀ {σ':St} {H':Hp} {s':Shared},Inv (compCx X (inNm own Nm fr) scope d) ([(s2.heap.objs.size,({ cls:=.type "list",data:=.seq its.toArray na }:Obj))] ++ pinsAt fp s5.heap) σ' H' s'→
     tn (i+1) s'.heap∧(∀ b∈fp,H' b=none)∧H' s2.heap.objs.size=none∧s'.heap.get? s2.heap.objs.size=some { cls:=.type "list",data:=.seq its.toArray na }:=fun {σ' H' s'} I'=>by
    have pD:=I'.pin (s2.heap.objs.size,{ cls:=.type "list",data:=.seq its.toArray na }) (List.mem_append_right _ (List.mem_append_left _ (List.mem_singleton.mpr rfl)))
    refine ⟨T.keep _ _ _ st5 fun b hb o e=>(I'.pin (b,o) (List.mem_append_right _ (List.mem_append_right _ (mem_pinsAt hb e)))).1,fun b hb=>?_,pD.2.1,pD.1⟩
    obtain ⟨o,e,_⟩:=T.obj _ _ st5 b hb
    exact (I'.pin (b,o) (List.mem_append_right _ (List.mem_append_right _ (mem_pinsAt hb e)))).2.1
   have drop:∀ {σ':St} {H':Hp} {s':Shared},(∀ (j:Nat) v,(inSt own.length fr σ)[j]? = some (some v)→σ'[j]? = some (some v))→Inv (compCx X (inNm own Nm fr) scope d) ([(s2.heap.objs.size,({ cls:=.type "list",data:=.seq its.toArray na }:Obj))] ++ pinsAt fp s5.heap) σ' H' s'→
     Inv (compCx X (inNm own Nm fr) scope d) [] (inSt own.length fr σ) H' s':=fun {σ' H' s'} hw I'=>
    (I'.pins_of (pins':=[]) (fun p hp=>absurd hp (by simp))).weak (lenSt.trans I'.len.symm) hw
   cases b with
   | false=>
    rw [if_neg Bool.false_ne_true]
    obtain ⟨m',hm,w'⟩:=hNx acc H7 (by rw [if_neg Bool.false_ne_true] at q7; exact q7)
    obtain ⟨k1,k2,k3,k4⟩:=fpK I7
    exact ⟨m',hm,i+1,acc,its,H7,drop wk I7,k1,k2,k3,va,⟨_,k4⟩,w'⟩
   | true=>
    rw [if_pos rfl]
    rw [if_pos rfl] at q7
    refine thn (he d _ s7 σ6 H7 _ I7 q7) fun y s8 ⟨yv,H8,I8,r8,q8⟩=>?_
    obtain ⟨m',hm,w'⟩:=hNx _ H8 q8
    obtain ⟨k1,k2,k3,k4⟩:=fpK I8
    have hsz:its.toArray.size≤sizeLine:=by
     rw [List.size_toArray,← va.length]
     exact Nat.le_of_lt hz
    refine wpAny_list_append_plain (hsz:=hsz) ⟨_,k4⟩ fun h9 hl9 hs9=>?_
    have I9:Inv (compCx X (inNm own Nm fr) scope d) [] (inSt own.length fr σ) H8 { s8 with heap:=h9 }:=by
     refine (drop wk I8).turned (t':=s8.toks) (it:=s2.heap.objs.size) (fun b o hb e=>hs9.extBut b o hb e) k3 hDC (.inr (Nat.le_refl _)) (fun x c e=>?_) fun p hp=>absurd (show p∈([]:List (Addr × Obj)) from hp) (by simp)
     exact Nat.ne_of_lt (cellLt x c (cellL x c e).1)
    refine ⟨m',hm,i+1,acc ++ [yv],its ++ [y],H8,I9,T.keep _ _ _ k1 fun b hb o e=>hs9.extBut b o (fun z=>hDf (z▸hb)) e,k2,k3,va.append (.cons r8 .nil),?_,w'⟩
    rw [show (its ++ [y]).toArray=its.toArray.push y by simp]
    exact hl9
 exact codeAny_compStart_list (loop _) (T.self _ 0 _ _ _ (T.keep 0 _ _ st2 fun b _ o e=>old b o e) (loop _))
theorem pe_comp (S:CompOk sc Nm own fr scope) (hc:X.calm=true) (hgf:GFr own.length g) (hi:PI X tg iter wi) (hg:∀ d,PG (compCx X (inNm own Nm fr) scope d) tg g)
  (ht:∀ d,PTs (compCx X (inNm own Nm fr) scope d) ifs tt) (he:∀ d,PE (compCx X (inNm own Nm fr) scope d) elt te) (hsc:X.env.scope=sc:=by rfl) (hN:X.N=Nm:=by rfl)
  (hs:∀ x,foldedSetIterable iter X.env x=pure x:=by intro _; rfl):PE X (.ListComp elt [⟨tg,iter,ifs,0⟩] scope cpos) (tComp own.length fr wi g tt te):=by
 intro pins s σ H Q I h
 rw [eval_ListComp]
 refine comp_core (use:=none) S hsc hN hc hgf hi hg ht he hs I h fun D C Hd s' m I' q hn nC c1 c2 c3 c4=>?_
 exact ⟨m,hn,fun h' hb=>⟨.ref D,Hd,I'.turned (t':=s'.toks) (fun b o hne e=>hb.extBut b o hne e) nC c2 (.inr c1) c3 c4,rfl,q⟩⟩
end
theorem comp_gen {J:It} {n k:Nat} {fr:List Nat} {g:TG} {tt:TT} {te:TE} {σ:St} {H:Hp} {Q:VK} (Pv:Nat→List V→Hp→Prop) (hk:k < sizeLine) (h0:Pv 0 [] H) (hlen:∀ i acc H,Pv i acc H→acc.length≤i)
  (hgo:∀ i acc H,i < k→Pv i acc H→J.go i H) (hst:∀ acc H,Pv k acc H→J.stop k H)
  (hs:∀ i acc H2 x H3,i < k→Pv i acc H2→J.yld i H2 x H3→g x (inSt n fr σ) H3 fun σ4 H4=>tt σ4 H4 fun b H5=>if b=true then te σ4 H5 fun v H6=>Pv (i+1) (acc ++ [v]) H6 else Pv (i+1) acc H5)
  (hd:∀ acc H2,Pv k acc H2→∀ l,H2 l=none→Q (.ref l) (upd H2 l (.lst acc))) :
  CompW J n fr g tt te σ H Q:=by
 refine ⟨fun i m acc H=>m=k - i∧i≤k∧Pv i acc H,⟨k,by simp,Nat.zero_le _,h0⟩,?_⟩
 rintro i m acc H2 ⟨rfl,hi,p⟩
 have hl:=hlen i acc H2 p
 refine ⟨by omega,?_⟩
 by_cases hlt:i < k
 ·exact .inr ⟨hgo i acc H2 hlt p,Pv (i+1),fun acc' H' p'=>⟨k - (i+1),by omega,rfl,hlt,p'⟩,fun x H3 y=>hs i acc H2 x H3 hlt p y⟩
 ·have e:i=k:=by omega
  subst e
  exact .inl ⟨hst acc H2 p,hd acc H2 p⟩
def comp_range {lo:Int} {n k:Nat} {fr:List Nat} {g:TG} {tt:TT} {te:TE} {σ:St} {H:Hp} {Q:VK} (Pv:Nat→List V→Hp→Prop) (hk:k < sizeLine) (h0:Pv 0 [] H) (hlen:∀ i acc H,Pv i acc H→acc.length≤i)
  (hs:∀ i acc H2,i < k→Pv i acc H2→g (.int (lo+i)) (inSt n fr σ) H2 fun σ4 H4=>tt σ4 H4 fun b H5=>if b=true then te σ4 H5 fun v H6=>Pv (i+1) (acc ++ [v]) H6 else Pv (i+1) acc H5)
  (hd:∀ acc H2,Pv k acc H2→∀ l,H2 l=none→Q (.ref l) (upd H2 l (.lst acc))):=
 comp_gen (J:=Itr lo k) (n:=n) (fr:=fr) (g:=g) (tt:=tt) (te:=te) (σ:=σ) (Q:=Q) Pv hk h0 hlen (fun _ _ _ h _=>h) (fun _ _ _=>Nat.le_refl _) (fun i acc H2 x H3 hi p y=>by
  obtain ⟨e1,e2⟩:=y
  subst e1 e2
  exact hs i acc _ hi p) hd
def comp_tup {K:PySem.W.Frag} {a:Addr} {xs:List V} {n:Nat} {fr:List Nat} {g:TG} {tt:TT} {te:TE} {σ:St} {H:Hp} {Q:VK} (Pv:Nat→List V→Hp→Prop) (hk:xs.length < sizeLine) (h0:Pv 0 [] H) (hlen:∀ i acc H,Pv i acc H→acc.length≤i)
  (hl:∀ i acc H,Pv i acc H→SqT K H a xs)
  (hs:∀ i acc H2 x,xs[i]? = some x→Pv i acc H2→g x (inSt n fr σ) H2 fun σ4 H4=>tt σ4 H4 fun b H5=>if b=true then te σ4 H5 fun v H6=>Pv (i+1) (acc ++ [v]) H6 else Pv (i+1) acc H5)
  (hd:∀ acc H2,Pv xs.length acc H2→∀ l,H2 l=none→Q (.ref l) (upd H2 l (.lst acc))):=
 comp_gen (J:=Itt K a) (n:=n) (fr:=fr) (g:=g) (tt:=tt) (te:=te) (σ:=σ) (Q:=Q) Pv hk h0 hlen (fun i acc H hi p=>⟨xs,xs[i],hl i acc H p,by simp [hi]⟩) (fun acc H p=>⟨xs,hl _ acc H p,Nat.le_refl _⟩) (fun i acc H2 x H3 hi p y=>by
  obtain ⟨e1,e2⟩:=y
  subst e1
  exact hs i acc _ x (e2 xs (hl i acc _ p)) p) hd
end L2
namespace L2
open PySem PySem.Spec PyProof.Rows
def Its (cs:List Nat):It:=⟨fun i _=>i < cs.length,fun i H x H'=>H'=H∧∃ c,cs[i]? = some c∧x=.str ⟨#[c]⟩,fun i _=>cs.length≤i⟩
theorem turn_str {P:Program} {w:World} {K:PySem.W.Frag} {tg:Expr} (it:Addr) (ty:String) (hty:ty = "str_ascii_iterator"∨ty = "str_iterator") (x:Str) (t:Tok) :
  Turn P w K tg (Its x.cps.toList) [it] it (fun i h=>h.IsStrIter it ty x t i) where
 mem:=by simp
 obj:=fun i h st b hb=>by
  rw [List.mem_singleton.mp hb]
  obtain ⟨o,e,c,d⟩:=st
  exact ⟨o,e,fun v z=>by rw [d] at z; cases z⟩
 keep:=fun i h h' st k=>by
  obtain ⟨o,e,r⟩:=st
  exact ⟨o,k it (by simp) o e,r⟩
 item:=by
  intro X hP hw hK hc i pins s σ H E I hf st hg
  subst hP hw hK
  have hlt:i < x.cps.toList.length:=hg
  obtain ⟨f0,f1,f2,f3,f4,f5⟩:=hf it (by simp)
  have hx:x.cps[i]? = some (x.cps.toList[i]):=by
   rw [← Array.getElem?_toList]
   exact List.getElem?_eq_getElem hlt
  have fin:∀ h',h'.IsStrIter it ty x t (i+1)→Heap.SameBut it s.heap h'→∃ u,some (Value.str ⟨#[x.cps.toList[i]]⟩ s.toks)=some u∧
    wpAny (model X.prog X.w) X.A (letOwnedTupleGo tg (.ref it) u) (fun _ s2=>∃ y H',Inv X pins σ H' s2∧RelV y u∧(Its x.cps.toList).yld i H y H'∧s2.heap.IsStrIter it ty x t (i+1)∧∀ b∈[it],H' b=none) E { s with heap:=h',toks:=s.toks+1 }:=fun h' st' sb=>by
   have I1:Inv X pins σ H { s with heap:=h',toks:=s.toks+1 }:=I.turned (fun b o hb e=>(sb.2 b hb).trans e) f0 f1 f3 f4 f5
   obtain ⟨o,e,c,d⟩:=id st'
   refine ⟨_,rfl,go_of (s:={ s with heap:=h',toks:=s.toks+1 }) (n:=ty) e c d (by rcases hty with z | z <;> subst z <;> decide) ⟨.str ⟨#[x.cps.toList[i]]⟩,H,I1,⟨_,rfl⟩,⟨rfl,_,List.getElem?_eq_getElem hlt,rfl⟩,st',fun b hb=>(hf b hb).1⟩⟩
  rcases hty with z | z
  ·subst z
   exact wpAny_pyNext_ascii_item st hx fun h' st' sb=>fin h' st' sb
  ·subst z
   exact wpAny_pyNext_wide_item st hx fun h' st' sb=>fin h' st' sb
 done:=by
  intro X hP hw hK hc i pins s σ H E I hf st hg
  subst hP hw hK
  have hle:x.cps.toList.length≤i:=hg
  obtain ⟨f0,f1,f2,f3,f4,f5⟩:=hf it (by simp)
  have hx:x.cps[i]? = none:=by
   rw [← Array.getElem?_toList]
   exact List.getElem?_eq_none_iff.mpr hle
  rcases hty with z | z
  ·subst z
   exact wpAny_pyNext_ascii_end (I.ok.hd hc) st hx fun h' eb=>⟨rfl,I.turned (t':=s.toks) (fun b o hb e=>eb b o hb e) f0 f1 f3 f4 f5⟩
  ·subst z
   exact wpAny_pyNext_wide_end (I.ok.hd hc) st hx fun h' eb=>⟨rfl,I.turned (t':=s.toks) (fun b o hb e=>eb b o hb e) f0 f1 f3 f4 f5⟩
 self:=fun _ _ _ _ _ st h=>by
  rcases hty with z | z
  ·subst z
   exact wpAny_pyIter_striter_ascii st h
  ·subst z
   exact wpAny_pyIter_striter_wide st h
section
variable {X:Cx} {tg e:Expr} {te:TE}
def iStr (te:TE):TI:=fun σ H R=>te σ H fun v H1=>∃ z,v=.str z∧R (Its z.cps.toList) H1
theorem pi_str (he:PE X e te):PI X tg e (iStr te):=by
 intro pins s σ H R I h
 refine thn (he pins s σ H _ I h) fun v s1 ⟨x,H1,I1,r1,q1⟩=>?_
 obtain ⟨z,e1,q⟩:=q1
 subst e1
 obtain ⟨t,rfl⟩:=r1
 have go:∀ (ty:String),(ty = "str_ascii_iterator"∨ty = "str_iterator")→PIE X pins σ tg R (.ref s1.heap.objs.size) { s1 with heap:=s1.heap.push { cls:=.type ty,data:=.fields #[.str z t,.int 0 0] } }:=fun ty hty=>by
  refine ⟨s1.heap.objs.size,[s1.heap.objs.size],_,_,H1,rfl,I1.kept (t':=s1.toks) fun b o e=>Heap.get?_push_of_some _ e,turn_str _ ty hty z t,⟨_,Heap.get?_push_size _ rfl,rfl,rfl⟩,fun b hb=>?_,q⟩
  rw [List.mem_singleton.mp hb]
  exact I1.fpOk (Nat.le_refl _) (I1.hok.fresh (Nat.le_refl _))
 cases ha:z.cps.all (· < 128) with
 | false=>exact wpAny_pyIter_wide ha (go _ (.inr rfl))
 | true=>exact wpAny_pyIter_ascii ha (go _ (.inl rfl))
end
def comp_str {cs:List Nat} {n:Nat} {fr:List Nat} {g:TG} {tt:TT} {te:TE} {σ:St} {H:Hp} {Q:VK} (Pv:Nat→List V→Hp→Prop) (hk:cs.length < sizeLine) (h0:Pv 0 [] H) (hlen:∀ i acc H,Pv i acc H→acc.length≤i)
  (hs:∀ i acc H2 c,cs[i]? = some c→Pv i acc H2→g (.str ⟨#[c]⟩) (inSt n fr σ) H2 fun σ4 H4=>tt σ4 H4 fun b H5=>if b=true then te σ4 H5 fun v H6=>Pv (i+1) (acc ++ [v]) H6 else Pv (i+1) acc H5)
  (hd:∀ acc H2,Pv cs.length acc H2→∀ l,H2 l=none→Q (.ref l) (upd H2 l (.lst acc))):=
 comp_gen (J:=Its cs) (n:=n) (fr:=fr) (g:=g) (tt:=tt) (te:=te) (σ:=σ) (Q:=Q) Pv hk h0 hlen (fun _ _ _ h _=>h) (fun _ _ _=>Nat.le_refl _) (fun i acc H2 x H3 hi p y=>by
  obtain ⟨e1,c,hc,hx⟩:=y
  subst e1 hx
  exact hs i acc _ c hc p) hd
theorem range_getD_all (bs:List Bool):(List.range bs.length).all (fun i=>bs.getD i false)=bs.all id:=by
 rw [Bool.eq_iff_iff,List.all_eq_true,List.all_eq_true]
 constructor
 ·intro h b hb
  obtain ⟨i,hi,rfl⟩:=List.getElem_of_mem hb
  have:=h i (List.mem_range.mpr hi)
  simpa [List.getD_eq_getElem?_getD,hi] using this
 ·intro h i hi
  have hi':=List.mem_range.mp hi
  have:=h bs[i] (List.getElem_mem hi')
  simpa [List.getD_eq_getElem?_getD,hi'] using this
section
variable {X:Cx}
theorem walk_bools {pins:List (Addr × Obj)} {σ:St} {H:Hp} {s:Shared} {p:Addr} {bs:List Bool} {Qv:VK} {f:Nat→(Nat→Bool)→Bool} {b:Bool} (hc:X.calm=true) (I:Inv X pins σ H s) (hq:SqL X.K H p (bs.map V.bl)) (hb:f bs.length (fun i=>bs.getD i false)=b) (q:Qv (.bl b) H) :
  wpAny (model X.prog X.w) X.A.in1 (pyIter (.ref p)) (fun it s₂=>∃ I fp wr n P St tr,it=.ref I∧Walks X.prog X.w X.A.in1 I fp wr n P St∧St 0 s₂.heap∧TruthOf X.prog X.w X.A.in1 P tr∧
   ∀ h' tk,(∀ b o,b∉wr→s₂.heap.get? b=some o→h'.get? b=some o)→EP X pins σ Qv (.bool (f n tr)) { s₂ with heap:=h',toks:=tk }) X.xe s:=by
 obtain ⟨its,r,pl,hz⟩:=I.list hq
 have hlen:its.toArray.size=bs.length:=by
  rw [List.size_toArray,← r.length,List.length_map]
 have hpl:p < s.heap.objs.size:=by
  obtain ⟨o,e,_⟩:=pl.isList
  exact Heap.lt_size e
 refine wpAny_pyIter_list pl.isList ?_
 refine ⟨s.heap.objs.size,[s.heap.objs.size,p],[s.heap.objs.size],its.toArray.size,_,_,fun i=>bs.getD i false,rfl,Walks.list (A:=X.A.in1) (show X.A.in1.handled=none from I.ok.hd hc) s.heap.objs.size p (Nat.ne_of_lt hpl) its.toArray,?_,?_,fun h' tk k=>?_⟩
 ·refine And.intro (show Heap.IsListIter _ _ _ _ from ⟨_,Heap.get?_push_size _ rfl,rfl,rfl⟩) ?_
  obtain ⟨o,e,z⟩:=pl.isList
  exact ⟨o,Heap.get?_push_of_some _ e,z⟩
 ·intro i v s' Q E hv hQ
  have hv':its[i]? = some v:=by simpa using hv
  cases e:(bs.map V.bl)[i]? with
  | none=>
   have z:=r.none_of e
   rw [hv'] at z
   cases z
  | some x=>
   obtain ⟨u,hu,ru⟩:=r.get e
   rw [hv'] at hu
   cases hu
   rw [List.getElem?_map] at e
   cases e2:bs[i]? with
   | none=>rw [e2] at e; cases e
   | some y=>
    rw [e2] at e
    cases e
    cases ru
    refine wpAny_truthy_bool ?_
    have:bs.getD i false=y:=by rw [List.getD_eq_getElem?_getD,e2]; rfl
    exact this▸(show Q (bs.getD i false) s' from hQ)
 ·rw [hlen,hb]
  refine ⟨.bl b,H,I.kept fun c o e=>k c o ?_ (Heap.get?_push_of_some _ e),rfl,q⟩
  have:=Heap.lt_size e
  intro z
  rw [List.mem_singleton.mp z] at this
  exact Nat.lt_irrefl _ this
theorem call_all_bl (hc:X.calm=true):CallR X (.builtin "all") (fun xs H Q=>∃ (p:Addr) (bs:List Bool),xs=[.ref p]∧SqL X.K H p (bs.map V.bl)∧Q (.bl (bs.all id)) H):=by
 intro pins s σ H xs us Q I r h
 obtain ⟨p,bs,rfl,hq,q⟩:=h
 obtain ⟨u,rfl,ru⟩:=vals1 r
 cases ru
 exact call_all_walk (walk_bools (f:=fun n tr=>(List.range n).all tr) hc I hq (range_getD_all bs) q)
theorem strsAre_of:∀ {ys:List Str} {us:List Value},Vals (ys.map V.str) us→StrsAre us ys
 | [],us,r=>by rw [List.map_nil] at r; cases r; exact .nil
 | y :: ys,us,r=>by
  rw [List.map_cons] at r
  cases r with
  | cons r1 r2=>
   obtain ⟨t,e⟩:=r1
   subst e
   exact .cons y t (strsAre_of r2)
theorem vals_strs:∀ {us:List Value} {ys:List Str},StrsAre us ys→Vals (ys.map V.str) us
 | _,_,.nil=>.nil
 | _,_,.cons y t h=>.cons ⟨t,rfl⟩ (vals_strs h)
inductive rJoinI (K:PySem.W.Frag) (x:V) (xs:List V) (H:Hp) (Q:VK):Prop
 | mk (z p ys:_) (h1:x=.str z) (h2:xs=[.ref p]) (h3:SqL K H p (ys.map V.str)) (h4:(ys.map (·.length)).sum+ys.length * z.length≤16777216) (h5:Q (.str (Txt.join z ys)) H):rJoinI K x xs H Q
def rJoin (K:PySem.W.Frag):V→List V→Hp→VK→Prop:=fun x xs H Q=>rJoinI K x xs H Q
theorem mt_join:MtR X "str.join" (rJoin X.K):=by
 intro pins s σ H x xs v us Q I rx rs h
 obtain ⟨z,p,ys,rfl,rfl,hq,hz,q⟩:=h
 obtain ⟨t,rfl⟩:=rx
 obtain ⟨u,rfl,ru⟩:=rs.one
 cases ru
 obtain ⟨its,r,pl,_⟩:=I.list hq
 exact join_list pl.isList (by simpa using strsAre_of r) hz fun t' k=>⟨.str _,H,I.tok _,⟨_,rfl⟩,q⟩
theorem join_nil_list (ys:List Str):(Txt.join (Str.ofString "") ys).cps.toList=(ys.map fun y=>y.cps.toList).flatten:=by
  show (Builtin.Str.glued (Str.ofString "") ys).cps.toList=_
  rw [StrLaws.glued_eq_join]
  induction ys with
  | nil=>rfl
  | cons y r ih=>
   cases r with
   | nil=>simp [Str.join]
   | cons z r=>
    have e:Str.join (Str.ofString "") (y :: z :: r)=y ++ Str.ofString "" ++ Str.join (Str.ofString "") (z :: r):=rfl
    rw [e]
    have h0:(Str.ofString "").cps = #[]:=by decide +kernel
    show ((y.cps ++ (Str.ofString "").cps) ++ (Str.join (Str.ofString "") (z :: r)).cps).toList=_
    rw [h0,Array.append_empty,Array.toList_append,ih,List.map_cons,List.map_cons,List.flatten_cons]
    rfl
inductive rSlSI (x:V) (lo:Option Int) (hi:Option Int) (H:Hp) (Q:VK):Prop
 | mk (z:_) (h1:x=.str z) (h2:z.length≤sizeLine) (h3:Q (.str (Txt.slice z lo hi)) H):rSlSI x lo hi H Q
def rSlS:V→Option Int→Option Int→Hp→VK→Prop:=fun x lo hi H Q=>rSlSI x lo hi H Q
theorem sl_str:SlR X rSlS:=by
 intro pins s σ H x v vl vu lo hi sl Q I rx hs pl pu h
 obtain ⟨z,rfl,hz,q⟩:=h
 obtain ⟨t,rfl⟩:=rx
 refine ⟨"str",_,F.slot_str_getitem.lookup,typeIs_str _ _ _,?_⟩
 have fin:∀ t' k,EP X pins σ Q (.str (Txt.slice z lo hi) t') { s with toks:=k }:=fun t' k=>⟨.str _,H,I.tok _,⟨_,rfl⟩,q⟩
 have hle:(Txt.slice z lo hi).length≤sizeLine:=Nat.le_trans (Txt.slice_le z _ _) hz
 cases pl with
 | none=>
  cases pu with
  | none=>exact wpAny_getItem_str_slice (l:=none) (u:=none) (st:=none) hs rfl (post_val_or_str ⟨hle,fin⟩)
  | int j uj=>exact wpAny_getItem_str_slice (l:=none) (u:=some (j,uj)) (st:=none) hs rfl (post_val_or_str ⟨hle,fin⟩)
 | int i ui=>
  cases pu with
  | none=>exact wpAny_getItem_str_slice (l:=some (i,ui)) (u:=none) (st:=none) hs rfl (post_val_or_str ⟨hle,fin⟩)
  | int j uj=>exact wpAny_getItem_str_slice (l:=some (i,ui)) (u:=some (j,uj)) (st:=none) hs rfl (post_val_or_str ⟨hle,fin⟩)
inductive rSortSI (K:PySem.W.Frag) (xs:List V) (H:Hp) (Q:VK):Prop
 | mk (p ys:_) (h1:xs=[.ref p]) (h2:SqL K H p (ys.map V.str)) (h3:ys.length < 64) (h4:∀ ys' l,ys'.Perm ys→sortedS ys'=true→H l=none→Q (.ref l) (upd H l (.lst (ys'.map V.str)))):rSortSI K xs H Q
def rSortS (K:PySem.W.Frag):List V→Hp→VK→Prop:=fun xs H Q=>rSortSI K xs H Q
theorem call_sorted_str:CallR X (.builtin "sorted") (rSortS X.K):=by
 intro pins s σ H xs us Q I r h
 obtain ⟨p,ys,rfl,hq,h64,q⟩:=h
 obtain ⟨u,rfl,ru⟩:=vals1 r
 cases ru
 obtain ⟨its,r',pl,hz⟩:=I.list hq
 have hlen:=r'.length
 rw [List.length_map] at hlen hz
 refine sorted_strs pl.isList (strsAre_of r') (by omega) fun out ss' a1 a2 a3=>?_
 obtain ⟨e,he⟩:=sortedAll_at s.heap its out
 have hn:H (s.heap.objs.size+1)=none:=I.hok.fresh (Nat.le_succ _)
 refine ⟨.ref (s.heap.objs.size+1),upd H (s.heap.objs.size+1) (.lst (ss'.map V.str)),I.laid (t':=s.toks) (fun _ _=>sortedAll_old) (Nat.le_succ _) ⟨?_,out.toList,e,vals_strs a1,?_⟩,rfl,q ss' _ a2 a3 hn⟩
 ·rw [List.length_map,a2.length_eq]
  exact hz
 ·simpa [seqObj] using he
def oneS (c:Nat):V:=.str ⟨#[c]⟩
theorem vals_signs {x:Str}:∀ (us:List Value) (k:Nat),(∀ i v,us[i]? = some v→SignAt x (k+i) v)→us.length+k=x.cps.toList.length→Vals ((x.cps.toList.drop k).map oneS) us
 | [],k,_,hl=>by
  rw [List.drop_eq_nil_of_le (by simpa using Nat.le_of_eq hl.symm)]
  exact .nil
 | u :: us,k,h,hl=>by
  have hk:k < x.cps.toList.length:=by
   simp only [List.length_cons] at hl
   omega
  rw [List.drop_eq_getElem_cons hk,List.map_cons]
  refine .cons ?_ (vals_signs us (k+1) (fun i v e=>?_) (by simp only [List.length_cons] at hl; omega))
  ·obtain ⟨c,t,hc,rfl⟩:=h 0 u rfl
   have hc':x.cps.toList[k]? = some c:=by
    rw [Array.getElem?_toList]
    exact hc
   rw [List.getElem?_eq_getElem hk] at hc'
   rw [Option.some.inj hc']
   exact ⟨t,rfl⟩
  ·have:=h (i+1) v e
   rw [show k+1+i=k+(i+1) by omega]
   exact this
theorem call_list_text (hc:X.calm=true):CallR X (.type "list") (fun xs H Q=>∃ z,xs=[.str z]∧z.length≤sizeLine∧∀ l,H l=none→Q (.ref l) (upd H l (.lst (z.cps.toList.map oneS)))):=by
 intro pins s σ H xs us Q I r h
 obtain ⟨z,rfl,hz,q⟩:=h
 obtain ⟨u,rfl,t,rfl⟩:=vals1 r
 refine call_list_str (hn:=hz) (I.ok.hd hc) z t fun h' tk acc c kp e it=>?_
 refine ⟨.ref s.heap.objs.size,_,I.laid kp (Nat.le_refl _) (show ObjOk X.prog X.w _ h' _ (.lst (z.cps.toList.map oneS)) from ⟨by rw [List.length_map]; simpa [Str.length] using hz,acc.toList,c,?_,by simpa using e⟩),rfl,q _ (I.hok.fresh (Nat.le_refl _))⟩
 have e1:=vals_signs (x:=z) acc.toList 0 (fun i v e=>by rw [Nat.zero_add]; exact it.2 i v (by rw [← Array.getElem?_toList]; exact e)) (by rw [Array.length_toList,it.1,Nat.add_zero,Array.length_toList])
 rw [List.drop_zero] at e1
 exact e1
theorem RelV.ty_inj {c:V} {u u':Value} (h:RelV c u) (h':RelV c u') (hc:(∃ n,c=.ty n)∨∃ a,c=.ref a):u=u':=by
 rcases hc with ⟨n,rfl⟩ | ⟨a,rfl⟩
 ·exact (show u=Value.type n from h).trans (show u'=Value.type n from h').symm
 ·exact (show u=Value.ref a from h).trans (show u'=Value.ref a from h').symm
inductive rIsI (K:PySem.W.Frag) (xs:List V) (H:Hp) (Q:VK):Prop
 | mk (x n t b:_) (h1:xs=[x,.ty n]) (h2:TyOf K H x t) (h3:PySem.W.kitOne K t (.type n)=some b) (h4:Q (.bl b) H):rIsI K xs H Q
def rIs (K:PySem.W.Frag):List V→Hp→VK→Prop:=fun xs H Q=>rIsI K xs H Q
theorem call_is:CallR X (.builtin "isinstance") (rIs X.K):=by
 intro pins s σ H xs us Q I r h
 obtain ⟨x,n,t,b,rfl,ty,e,q⟩:=h
 obtain ⟨u,w',rfl,rx,rc⟩:=vals2 r
 cases (show w'=Value.type n from rc)
 exact isinst_ok I rx ty e fun tk=>⟨.bl b,H,I.tok _,rfl,q⟩
end
end L2
namespace L2
open PySem PySem.Spec PyProof.Rows
inductive tCutI (t:TS) (u:TS) (D:Ends) (σ:St) (H:Hp):Prop
 | mk (P:St→Hp→Prop) (h1:t { D with nx:=P } σ H) (h2:∀ σ' H',P σ' H'→u D σ' H'):tCutI t u D σ H
def tCut (t u:TS):TS:=fun D σ H=>tCutI t u D σ H
theorem pss_cut {X:Cx} {st:Stmt} {rest:List Stmt} {t u:TS} (h1:PS X st t) (h2:PSs X rest u):PSs X (st :: rest) (tCut t u):=by
 intro pins s σ H D I h
 obtain ⟨P,q,k⟩:=h
 have z:PSs X (st :: rest) (tSeq (fun D' σ' H'=>D'=D∧σ'=σ∧H'=H) (fun _ _ _=>True))→True:=fun _=>True.intro
 exact pss_cons (t:=fun D' σ' H'=>t { D' with nx:=P } σ' H'∧∀ σ2 H2,P σ2 H2→D'.nx σ2 H2) (u:=u) (fun pins s σ H D I h=>by
  refine thn (h1 pins s σ H _ I h.1) fun f s' r=>?_
  cases f with
  | next=>
   obtain ⟨σ',H',I',p⟩:=r
   exact ⟨σ',H',I',h.2 σ' H' p⟩
  | brk=>exact r
  | cont=>exact r
  | ret v=>exact r) h2 pins s σ H D I ⟨q,k⟩
structure Cal (P:Program) (w:World) (K:PySem.W.Frag) (mg:Str→Option Value) (base:Heap) (x:Str) (k:Nat) (ps:List Str) (sp:Sp) where
 f:Addr
 fd:FuncData
 ok:FnOk P w K mg base CX0 k f fd ps sp
 at_:mg x=some (.ref f)
 kp:PySem.W.keepIn K (.ref f)=true
 b:Binds K fd ps []
theorem pe_c {X:Cx} {x:Str} {k:Nat} {ps:List Str} {sp:Sp} {p pos:Pos} {e:Expr} {es:List Expr} {t:TA} (C:Cal X.prog X.w X.K X.mg X.base x k ps sp) (hr:Room k X.A) (ha:PA X (e :: es) t) (hg:Gl X x:=by rfl)
  (hdb:(x==("__debug__" : Str))=false:=by decide) (he:starEach (e :: es) X.env=(false,eval e X.env) :: starEach es X.env:=by rfl) (hpl:(backTo pos (starEach es X.env)).any (·.1)=false:=by rfl) :
  PE X (.Call (.Name x p) (e :: es) [] pos) (tCall sp [] E0 t):=pe_call C.ok hr hg C.at_ C.kp C.b .nil pass0 ha hdb he hpl
section
variable {X:Cx}
theorem op_le_str:OpR X (compareOp .LtE) (fun x y H Q=>∃ i j,x=.str i∧y=.str j∧Q (.bl (!decide (j.cps.toList < i.cps.toList))) H):=by
 intro pins s σ H x y v u Q I rx ry h
 obtain ⟨i,j,rfl,rfl,q⟩:=h
 obtain ⟨t,rfl⟩:=rx
 obtain ⟨t',rfl⟩:=ry
 exact PySem.P.le_str (fin_bl I q rfl)
end
theorem lt_one (a b:Nat):decide (([a]:List Nat) < [b])=decide (a < b):=by
 rw [Bool.eq_iff_iff,decide_eq_true_eq,decide_eq_true_eq]
 constructor
 ·intro h
  cases h with
  | rel h=>exact h
  | cons h=>cases h
 ·intro h
  exact List.Lex.rel h
section
variable {X:Cx} {K:PySem.W.Frag}
inductive rLenQI (K:PySem.W.Frag) (xs:List V) (H:Hp) (Q:VK):Prop
 | mk (p ys:_) (h1:xs=[V.ref p]) (h2:(SqL K H p ys∨SqT K H p ys)) (h3:Q (.int ys.length) H):rLenQI K xs H Q
def rLenQ (K:PySem.W.Frag):List V→Hp→VK→Prop:=fun xs H Q=>rLenQI K xs H Q
inductive rListQI (K:PySem.W.Frag) (xs:List V) (H:Hp) (Q:VK):Prop
 | mk (p ys:_) (h1:xs=[V.ref p]) (h2:(SqL K H p ys∨SqT K H p ys)) (h3:∀ l,H l=none→Q (.ref l) (upd H l (.lst ys))):rListQI K xs H Q
def rListQ (K:PySem.W.Frag):List V→Hp→VK→Prop:=fun xs H Q=>rListQI K xs H Q
inductive rTupQI (K:PySem.W.Frag) (xs:List V) (H:Hp) (Q:VK):Prop
 | mk (p ys:_) (h1:xs=[V.ref p]) (h2:((SqL K H p ys∧∀ l,H l=none→Q (.ref l) (upd H l (.tup ys)))∨(SqT K H p ys∧Q (.ref p) H))):rTupQI K xs H Q
def rTupQ (K:PySem.W.Frag):List V→Hp→VK→Prop:=fun xs H Q=>rTupQI K xs H Q
inductive rAllQI (K:PySem.W.Frag) (xs:List V) (H:Hp) (Q:VK):Prop
 | mk (p:Addr) (bs:List Bool) (h1:xs=[V.ref p]) (h2:SqL K H p (bs.map V.bl)) (h3:Q (.bl (bs.all id)) H):rAllQI K xs H Q
def rAllQ (K:PySem.W.Frag):List V→Hp→VK→Prop:=fun xs H Q=>rAllQI K xs H Q
theorem CallR.imp {X:Cx} {f:Value} {r r':List V→Hp→VK→Prop} (h:CallR X f r) (hi:∀ xs H Q,r' xs H Q→r xs H Q):CallR X f r':=fun pins s σ H xs us Q I rv q=>h pins s σ H xs us Q I rv (hi xs H Q q)
theorem ix_listK (hK:X.K=K:=by rfl):IxR X (rIxL K):=by subst hK; exact ix_list
theorem ix_tupK (hK:X.K=K:=by rfl):IxR X (rIxT K):=by subst hK; exact ix_tup
theorem call_lenK (hK:X.K=K:=by rfl):CallR X (.builtin "len") (rLenQ K):=by subst hK; exact call_len_seq.imp fun _ _ _ ⟨p,ys,e,h,q⟩=>⟨p,ys,e,h,q⟩
theorem call_listK (hK:X.K=K:=by rfl):CallR X (.type "list") (rListQ K):=by subst hK; exact call_list_of.imp fun _ _ _ ⟨p,ys,e,h,q⟩=>⟨p,ys,e,h,q⟩
theorem call_tupK (hK:X.K=K:=by rfl):CallR X (.type "tuple") (rTupQ K):=by subst hK; exact call_tuple_of.imp fun _ _ _ ⟨p,ys,e,h⟩=>⟨p,ys,e,h⟩
theorem call_allK (hc:X.calm=true:=by rfl) (hK:X.K=K:=by rfl):CallR X (.builtin "all") (rAllQ K):=by subst hK; exact (call_all_bl hc).imp fun _ _ _ ⟨p,bs,e,h,q⟩=>⟨p,bs,e,h,q⟩
theorem call_sortK (hK:X.K=K:=by rfl):CallR X (.builtin "sorted") (rSortS K):=by subst hK; exact call_sorted_str
theorem call_isK (hK:X.K=K:=by rfl):CallR X (.builtin "isinstance") (rIs K):=by subst hK; exact call_is
theorem op_notInK (hK:X.K=K:=by rfl):OpR X (compareOp .NotIn) (rIn K true):=by subst hK; exact op_notIn_seq
theorem op_catTK (hK:X.K=K:=by rfl):OpR X (binaryOp .Add) (rCatT K):=by subst hK; exact op_catT
theorem sl_listK (hK:X.K=K:=by rfl):SlR X (rSlL K):=by subst hK; exact sl_list
theorem sl_tupK (hK:X.K=K:=by rfl):SlR X (rSlT K):=by subst hK; exact sl_tup
theorem mt_joinK (hK:X.K=K:=by rfl):MtR X "str.join" (rJoin K):=by subst hK; exact mt_join
theorem pi_tupK {tg l:Expr} {tl:TE} (hl:PE X l tl) (hK:X.K=K:=by rfl):PI X tg l (iTup K tl):=by subst hK; exact pi_tup hl
theorem pg_tupK {es:List Expr} {k:Nat} {t:TGs} {n:Nat} {pos:Pos} (hc:X.calm=true) (h:PGs X es t) (hK:X.K=K:=by rfl)
  (hn:(assignEach es X.env).length=n:=by rfl) (hst:(assignEach es X.env).findIdx? (·.1)=none:=by rfl):PG X (.Tuple es k pos) (gTup K n t):=by subst hK; exact pg_tup hc h hn hst
theorem pe_bm0K {o:Expr} {to:TE} {name:Str} {apos cpos:Pos} {T id:String} {r:V→List V→Hp→VK→Prop} (pa:PlainAttrs T) (slot:Slot T name id) (hty:typeOf (.builtin id)=pure (.type "method_descriptor")) (hm:MtR X id r) (ho:PE X o to) (hK:X.K=K:=by rfl)
  (hbase:attributeBase o name X.env (eval o X.env)=eval o X.env:=by rfl) (hline:(apos.endLine==cpos.line)=true:=by rfl):PE X (.Call (.Attribute o name apos) [] [] cpos) (tBM0 K T r to):=by subst hK; exact pe_bm0 pa slot hty hm ho hbase hline
theorem pe_bmK {o e:Expr} {es:List Expr} {to:TE} {t:TA} {name:Str} {apos cpos:Pos} {T id:String} {r:V→List V→Hp→VK→Prop} (pa:PlainAttrs T) (slot:Slot T name id) (hty:typeOf (.builtin id)=pure (.type "method_descriptor")) (hm:MtR X id r) (ho:PE X o to)
  (ha:PA X (e :: es) t) (hK:X.K=K:=by rfl) (hbase:attributeBase o name X.env (eval o X.env)=eval o X.env:=by rfl)
  (hfew:((backTo cpos (starEach (e :: es) X.env)).all (fun x=>!x.1) && (backToKw cpos (keywordEach [] X.env)).all (fun x=>x.1.isSome)
   && decide ((e :: es).length+([]:List Keyword).length+(if ([]:List Keyword).isEmpty then 0 else 1) < 30))=true:=by rfl)
  (hline:(apos.endLine==cpos.line)=true:=by rfl) (hs:starEach (e :: es) X.env=(false,eval e X.env) :: starEach es X.env:=by rfl) (hplain:(backTo cpos (starEach es X.env)).any (·.1)=false:=by rfl) :
  PE X (.Call (.Attribute o name apos) (e :: es) [] cpos) (tBM K T r to t):=by subst hK; exact pe_bm pa slot hty hm ho ha hbase hfew hline hs hplain
end
theorem slice_ix (lo hi:Option Int) (n:Nat):Builtin.Str.strSliceIndices lo hi 1 n=(List.range (HT.sIx n n hi - HT.sIx n 0 lo)).map (HT.sIx n 0 lo + ·):=by
 obtain ⟨h1,h2,h3⟩:=slice_bounds lo hi n
 have e:Builtin.Str.strSliceIndices lo hi 1 n=sliceRange (sliceBounds lo hi none n).1 (sliceBounds lo hi none n).2.1 (sliceBounds lo hi none n).2.2:=by
  cases lo <;> cases hi <;> rfl
 rw [e,h1,h2,h3,sliceRange_one]
theorem slice_list (z:Str) (lo hi:Option Int):(Txt.slice z lo hi).cps.toList=(z.cps.toList.drop (HT.sIx z.length 0 lo)).take (HT.sIx z.length z.length hi - HT.sIx z.length 0 lo):=by
 unfold Txt.slice
 rw [slice_ix]
 by_cases hc:((1:Int)==1 && ((List.range (HT.sIx z.length z.length hi - HT.sIx z.length 0 lo)).map (HT.sIx z.length 0 lo + ·)).length==z.length)=true
 ·rw [if_pos hc]
  simp only [Bool.and_eq_true,List.length_map,List.length_range,beq_iff_eq,true_and] at hc
  have h1:=HT.sIx_le z.length 0 (Nat.zero_le _) lo
  have h2:=HT.sIx_le z.length z.length (Nat.le_refl _) hi
  have hl:z.cps.toList.length=z.length:=by simp [Str.length]
  by_cases h0:z.length=0
  ·have:z.cps.toList=[]:=List.eq_nil_of_length_eq_zero (by omega)
   rw [this]
   simp
  ·have e0:HT.sIx z.length 0 lo=0:=by omega
   rw [e0,List.drop_zero,List.take_of_length_le (by omega)]
 ·rw [if_neg hc]
  rw [pick_run]
theorem bt_len:bootBuiltins "len" = some (.builtin "len"):=by decide +kernel
theorem bt_sorted:bootBuiltins "sorted" = some (.builtin "sorted"):=by decide +kernel
theorem bt_all:bootBuiltins "all" = some (.builtin "all"):=by decide +kernel
theorem bt_isinstance:bootBuiltins "isinstance" = some (.builtin "isinstance"):=by decide +kernel
theorem bt_list:bootBuiltins "list" = some (.type "list"):=by decide +kernel
theorem bt_tuple:bootBuiltins "tuple" = some (.type "tuple"):=by decide +kernel
theorem bt_int:bootBuiltins "int" = some (.type "int"):=by decide +kernel
theorem bt_bool:bootBuiltins "bool" = some (.type "bool"):=by decide +kernel
theorem bt_enumerate:bootBuiltins "enumerate" = some (.type "enumerate"):=by decide +kernel
theorem bt_reversed:bootBuiltins "reversed" = some (.type "reversed"):=by decide +kernel
theorem cyes {i:Nat} {x:V} {σ:St} {H:Hp} {te:TE} {Nt:VK} {Nf:Hp→Prop} (h:te (σ.set i (some x)) H Nt):gName i x σ H fun σ4 H4=>tYes σ4 H4 fun b H5=>if b=true then te σ4 H5 Nt else Nf H5:=by
 show if true=true then te (σ.set i (some x)) H Nt else Nf H
 exact iteT h
theorem same_new {H:Hp} {p:Addr} (h:H p=none) (o:HO):Same H (upd H p o):=fun b u q=>by rw [upd_ne (ne_of_none q h)]; exact q
theorem line_le {n:Nat} (h:n≤1000):n≤sizeLine:=Nat.le_of_lt (small1000 h)
def FlowXs (sc:Addr) (xs:List V):Prop:=∃ a b c d:Int,xs=[.ref sc,.int a,.int b,.int c,.int d]∧0≤a∧0≤b∧0≤c∧c < 2147483647∧0≤d
structure FlowAt (H:Hp) (p sc:Addr):Prop where
 here:∃ xs,H p=some (.lst xs)∧FlowXs sc xs
 cells:∃ ns:List Int,H sc=some (.lst (ns.map V.int))
theorem FlowAt.ne {H:Hp} {p sc:Addr} (F:FlowAt H p sc):sc≠p:=by
 obtain ⟨xs,h1,a,b,c,d,e,_⟩:=F.here
 obtain ⟨ns,h2⟩:=F.cells
 refine ne_of h2 h1 fun z=>?_
 have z':ns.map V.int=xs:=by injection z
 rw [e] at z'
 cases ns with
 | nil=>cases z'
 | cons n r=>
  rw [List.map_cons] at z'
  injection z' with z1
  cases z1
theorem FlowAt.go {H:Hp} {p sc:Addr} {xs:List V} (F:FlowAt H p sc) (h:FlowXs sc xs):FlowAt (upd H p (.lst xs)) p sc:=by
 obtain ⟨ns,h2⟩:=F.cells
 exact ⟨⟨xs,upd_same,h⟩,ns,by rw [upd_ne F.ne]; exact h2⟩
def Drew (H H':Hp) (p:Addr):Prop:=∀ b o,H b=some o→b≠p→H' b=some o
theorem FlowAt.same {H H':Hp} {p sc:Addr} (F:FlowAt H p sc) (e:Same H H'):FlowAt H' p sc:=by
 obtain ⟨xs,h1,h2⟩:=F.here
 obtain ⟨ns,h3⟩:=F.cells
 exact ⟨⟨xs,e _ _ h1,h2⟩,ns,e _ _ h3⟩
theorem Drew.trans {H H1 H2:Hp} {p:Addr} (a:Drew H H1 p) (b:Drew H1 H2 p):Drew H H2 p:=fun c o h n=>b c o (a c o h n) n
theorem Drew.upd {H:Hp} {p:Addr} (o:HO):Drew H (upd H p o) p:=fun b u h n=>by rw [upd_ne n]; exact h
theorem Drew.same {H H':Hp} {p:Addr} (h:Same H H'):Drew H H' p:=fun b o e _=>h b o e
inductive spFlowI (K:PySem.W.Frag) (vs:List V) (H:Hp) (Q:VK):Prop
 | mk (a:Addr) (ns:List Int) (h1:vs=[.ref a]) (h2:SqL K H a (ns.map V.int)) (h3:∀ p sc H',H p=none→Same H H'→FlowAt H' p sc→Q (.ref p) H'):spFlowI K vs H Q
def spFlow (K:PySem.W.Frag):Sp:=fun vs H Q u3_=>spFlowI K vs H Q
inductive spPickI (vs:List V) (H:Hp) (Q:VK):Prop
 | mk (p sc:Addr) (m:Int) (h1:vs=[.ref p,.int m]) (h2:0 < m) (h3:m < 1073741824) (h4:FlowAt H p sc) (h5:∀ r xs,0≤r→r < m→FlowXs sc xs→Q (.int r) (upd H p (.lst xs))):spPickI vs H Q
def spPick:Sp:=fun vs H Q u3_=>spPickI vs H Q
def IsLetters (z:Str) (n:Nat):Prop:=z.cps.toList.length=n∧z.cps.toList.Pairwise (· < ·)∧∀ c∈z.cps.toList,97≤c∧c≤122
inductive spLettersI (vs:List V) (H:Hp) (Q:VK):Prop
 | mk (p sc:Addr) (m:Int) (h1:vs=[.ref p,.int m]) (h2:0≤m) (h3:m≤26) (h4:FlowAt H p sc) (h5:∀ z H',IsLetters z m.toNat→Drew H H' p→FlowAt H' p sc→Q (.str z) H'):spLettersI vs H Q
def spLetters:Sp:=fun vs H Q u3_=>spLettersI vs H Q
inductive Dt where
 | non | bl (b:Bool) | int (i:Int) | str (x:Str) | lst (ds:List Dt) | tup (ds:List Dt)
def Dt.dep:Dt→Nat
 | .lst ds=>(ds.map Dt.dep).foldr max 0+1
 | .tup ds=>(ds.map Dt.dep).foldr max 0+1
 | _=>0
inductive Den (H:Hp):V→Dt→Prop where
 | non:Den H .non .non
 | bl (b:Bool):Den H (.bl b) (.bl b)
 | int (i:Int):Den H (.int i) (.int i)
 | str (x:Str):Den H (.str x) (.str x)
 | lst {a:Addr} {xs:List V} {ds:List Dt} (h:H a=some (.lst xs)) (hz:xs.length≤1000000) (hl:xs.length=ds.length) (hd:∀ (i:Nat) x d,xs[i]? = some x→ds[i]? = some d→Den H x d):Den H (.ref a) (.lst ds)
 | tup {a:Addr} {xs:List V} {ds:List Dt} (h:H a=some (.tup xs)) (hz:xs.length≤1000000) (hl:xs.length=ds.length) (hd:∀ (i:Nat) x d,xs[i]? = some x→ds[i]? = some d→Den H x d):Den H (.ref a) (.tup ds)
theorem Den.same {H H':Hp} (e:Same H H') {v:V} {d:Dt} (h:Den H v d):Den H' v d:=by
 induction h with
 | non=>exact .non
 | bl b=>exact .bl b
 | int i=>exact .int i
 | str x=>exact .str x
 | lst h hz hl hd ih=>exact .lst (e _ _ h) hz hl ih
 | tup h hz hl hd ih=>exact .tup (e _ _ h) hz hl ih
theorem kit_i_b (K:PySem.W.Frag):PySem.W.kitOne K (.type "int") (.type "bool")=some false:=by kernel_rfl
end L2
namespace L2
open PySem PySem.Spec PyProof.Rows
section
variable {X:Cx} {tg:Expr}
end
def tTru (K:PySem.W.Frag) (ta:TE):TT:=fun σ H Q=>ta σ H fun x H'=>∃ k,TruV K x H' k∧Q k H'
theorem pt_truthK {X:Cx} {K:PySem.W.Frag} {a:Expr} {ta:TE} (ha:PE X a ta) (he:∀ whole,isTrue a X.env whole=(do let v ← whole; standAt a.pos; holding [v] (truthy v))) (hK:X.K=K:=by rfl):PT X a (tTru K ta):=by
 subst hK
 exact pt_truth ha he
end L2
namespace L2
open PySem PySem.Spec PyProof.Rows
section
variable {P:Program} {w:World} {A:Around} {E:Value→Shared→Prop} {s:Shared}
set_option maxHeartbeats 3200000 in
end
end L2
namespace L2
open PySem PySem.Spec PyProof.Rows
section
variable {P:Program} {w:World} {A:Around} {E:Value→Shared→Prop} {s:Shared}
end
end L2
namespace L2
open PySem PySem.Spec PyProof.Rows
section
variable {P:Program} {w:World} {A:Around} {E:Value→Shared→Prop} {s:Shared}
end
def signs (z:Str):List Str:=z.cps.toList.map fun c=>⟨#[c]⟩
section
variable {X:Cx}
end
end L2
namespace L2
open PySem PySem.Spec PyProof.Rows
end L2
namespace L2
open PySem PySem.Spec PyProof.Rows
section
variable {X:Cx} {K:PySem.W.Frag}
end
end L2
namespace L2
open PySem PySem.Spec PyProof.Rows
theorem ps_dead {X:Cx} {st:Stmt}:PS X st (fun _ _ _=>False):=fun _ _ _ _ _ _ h=>h.elim
section
variable {X:Cx}
theorem vals_nums:∀ (tk:Nat) (ys:List Str),Vals (ys.map V.str) (strsFrom tk ys)
 | _,[]=>.nil
 | tk,y :: r=>.cons ⟨tk,rfl⟩ (vals_nums (tk+1) r)
inductive rSplitI (x:V) (xs:List V) (H:Hp) (Q:VK):Prop
 | mk (z y:_) (h1:x=.str z) (h2:xs=[.str y]) (h3:y.length=1) (h4:z.length≤1000000) (h5:∀ l,H l=none→Q (.ref l) (upd H l (.lst ((Txt.split z y).map V.str)))):rSplitI x xs H Q
def rSplit:V→List V→Hp→VK→Prop:=fun x xs H Q=>rSplitI x xs H Q
theorem mt_split:MtR X "str.split" rSplit:=by
 intro pins s σ H x xs v us Q I rx rs h
 obtain ⟨z,y,rfl,rfl,hy,hz,q⟩:=h
 obtain ⟨t,rfl⟩:=rx
 obtain ⟨w',rfl,u,rfl⟩:=rs.one
 have hs:(Txt.split z y).length≤z.length+2:=split_le z y
 have hl:sizeLine=16777216:=sizeLine_eq
 have fin:∀ (tk:Nat) (its:List Value),Vals ((Txt.split z y).map V.str) its→EP X pins σ Q (.ref s.heap.objs.size) { s with heap:=s.heap.push { cls:=.type "list",data:=.seq its.toArray },toks:=tk }:=fun tk its hv=>
  ⟨.ref _,_,I.lnew (t':=tk) hv (by rw [List.length_map]; omega),rfl,q _ I.fresh⟩
 have hy0:(y.length==0)=false:=by rw [hy]; rfl
 cases h1:(decide (z.length < y.length) || decide (Builtin.Str.strKind z < Builtin.Str.strKind y))
 ·cases hf:(Builtin.Str.occurrences z y 0 z.length (z.length+1)).isEmpty
  ·have e:Txt.split z y=Builtin.Str.partsBetween z (Builtin.Str.occurrences z y 0 z.length (z.length+1)) y.length:=by
    unfold Txt.split
    rw [if_neg (by rw [h1]; decide),if_neg (by rw [hf]; decide)]
   rw [e] at fin hs
   exact call_meets F.slot_str_split (typeIs_str _ _ _) F.entry_str_split (F.args_str_split_2 _ _) (meets_str_split_sep z y t u h1 hy0 hf (by omega) (by omega)) (fin _ _ (vals_nums _ _))
  ·have e:Txt.split z y=[z]:=by
    unfold Txt.split
    rw [if_neg (by rw [h1]; decide),if_pos hf]
   rw [e] at fin
   exact call_meets F.slot_str_split (typeIs_str _ _ _) F.entry_str_split (F.args_str_split_2 _ _) (meets_str_split_not_found z y t u h1 hy0 hf) (fin _ _ (.cons ⟨_,rfl⟩ .nil))
 ·have e:Txt.split z y=[z]:=by
   unfold Txt.split
   rw [if_pos h1]
  rw [e] at fin
  exact call_meets F.slot_str_split (typeIs_str _ _ _) F.entry_str_split (F.args_str_split_2 _ _) (meets_str_split_cannot_occur z y t u h1) (fin _ _ (.cons ⟨_,rfl⟩ .nil))
end
def jl (c:Nat):List (List Nat)→List Nat
 | []=>[]
 | [x]=>x
 | x :: y :: r=>x ++ c :: jl c (y :: r)
theorem jl_cons (c:Nat) (x y:List Nat) (r:List (List Nat)):jl c (x :: y :: r)=x ++ c :: jl c (y :: r):=rfl
theorem join_jl (c:Nat):∀ ys:List Str,(Str.join ⟨#[c]⟩ ys).cps.toList=jl c (ys.map fun y=>y.cps.toList)
 | []=>rfl
 | [y]=>rfl
 | y :: z :: r=>by
  have e:Str.join ⟨#[c]⟩ (y :: z :: r)=y ++ ⟨#[c]⟩ ++ Str.join ⟨#[c]⟩ (z :: r):=rfl
  rw [e]
  show ((y.cps ++ #[c]) ++ (Str.join ⟨#[c]⟩ (z :: r)).cps).toList=_
  rw [Array.toList_append,Array.toList_append,join_jl c (z :: r)]
  simp [jl]
end L2
namespace L2
open PySem PySem.Spec PyProof.Rows
section
variable {X:Cx} {K:PySem.W.Frag}
end
section
open PySem.SeqAt
open PySem.AutoSeq1 (wpAny_loadPart')
open PySem.MeetsSeq PySem.MeetsSeq2 PySem.MeetsSeq3
end
section
variable {X:Cx} {K:PySem.W.Frag}
end
end L2
namespace L2
open PySem PySem.Spec PyProof.Rows
section
open PySem.W (KasT kas_asc kas_count kas_cmp kas_st kas_item)
end
section
variable {prog:Program} {w:World} {A:Around} {E:Value→Shared→Prop} {s:Shared}
end
abbrev lo (ks:List Value) (e:Nat):Obj:={ cls:=.type "list",data:=.seq ks.toArray e }
section
variable {X:Cx} {pins:List (Addr × Obj)} {σ:St} {H:Hp} {s:Shared}
structure Far (X:Cx) (pins:List (Addr × Obj)) (a:Addr):Prop where
 loc:a≠X.env.locals
 fs:a∉X.fs
 new:X.s₀.heap.objs.size≤a
 cell:∀ x c,X.env.cells.lookup x=some c→c≠a
 pin:∀ p∈X.pn ++ pins,p.1≠a
theorem Inv.far (I:Inv X pins σ H s) {a:Addr} (h:s.heap.objs.size≤a):Far X pins a:=by
 obtain ⟨_,f1,f2,f3,f4,f5⟩:=I.fpOk (H':=fun _=>none) h rfl
 exact ⟨f1,f2,Nat.le_trans I.sz h,f4,f5⟩
end
section
variable {X:Cx} {pins:List (Addr × Obj)} {σ:St} {H:Hp} {s:Shared} {x:Str} {k:Nat} {ps:List Str} {sp:Sp} {ok:V→Prop} {kf:V→List V}
end
end L2
namespace L2
open PySem PySem.Spec PyProof.Rows
section
open PySem.W (KasT kas_asc kas_desc kas_tail3 kas_descPart kas_count kas_place kas_bin kas_sort kas_rev)
variable {n:Nat} {lt:Nat→Nat→Bool} {p:Array Nat}
end
end L2
namespace L2
open PySem PySem.Spec PyProof.Rows
section
open PySem.W (kas_count kas_ask kas_item kas_st kas_asc)
end
section
variable {X:Cx} {pins:List (Addr × Obj)} {σ:St} {H:Hp} {s:Shared} {x:Str} {k:Nat} {ps:List Str} {sp:Sp}
end
end L2
namespace L2
open PySem PySem.Spec PyProof.Rows
section
variable {P:Program} {w:World} {A:Around} {E:Value→Shared→Prop} {s:Shared}
end
section
variable {X:Cx} {pins:List (Addr × Obj)} {σ:St} {H:Hp} {s:Shared} {x:Str} {k:Nat} {ps:List Str} {sp:Sp}
end
end L2
namespace L2
open PySem PySem.Spec PyProof.Rows
abbrev bmV:List Value:=[.type "ValueError",.type "Exception",.type "BaseException",.type "object"]
def excK (K:PySem.W.Frag) (C:Addr) (ini:Option Value):Bool:=match K.lookup C with
 | some ⟨.type "type",_,.cls cd,sl⟩=>match cd.mro,sl.toList with
  | .ref C' :: bm,[_,_,_,_,some (.builtin n),_]=>C'==C && n == "ValueError.__new__" && !cd.hasDel && cd.hasDict && PySem.W.tailIn K bmV bm && PySem.W.nsOkIn K cd.ns && PySem.W.nsIn K cd.ns "__init__" == some ini
  | _,_=>false
 | _=>false
structure ExcC (K:PySem.W.Frag) (h:Heap) (C:Addr) (ini:Option Value):Prop where
 obj:∃ nm q N bs bm sn sub ab col dd k0 k1 k2 k3 k5 mN,h.get? C=some (excClassObj nm q C N bs bm true sn sub ab col dd k0 k1 k2 k3 k5 "ValueError.__new__")∧h.Ns N mN∧mN "__init__" = ini∧OwnTail h bmV bm
theorem ns_some {h:Heap} {K:PySem.W.Frag} {N:Addr} {mg:Str→Option Value} {n:Str} {r:Option Value} (X:K.In h) (G:h.Ns N mg) (e:PySem.W.nsIn K N n=some r):mg n=r:=by
 cases r with
 | none=>exact PySem.W.ns_none_of X G e
 | some v=>
  obtain ⟨o,es,ep,ho,hd,_,hf⟩:=G
  unfold PySem.W.nsIn at e
  split at e
  ·rename_i es' n' sl q
   have z:=X _ _ q
   rw [ho] at z
   cases z
   cases hd
   split at e
   ·rename_i en he
    cases e
    rw [← hf,nsFind,findBy,← Array.find?_toList,he]
    rfl
   ·split at e <;> cases e
  ·cases e
theorem excC_of {K:PySem.W.Frag} {h:Heap} {C:Addr} {ini:Option Value} (X:K.In h) (e:excK K C ini=true):ExcC K h C ini:=by
 unfold excK at e
 split at e
 ·rename_i dd cd sl ho
  split at e
  ·rename_i C' bm k0 k1 k2 k3 n k5 hm hs
   simp only [Bool.and_eq_true,beq_iff_eq,Bool.not_eq_true'] at e
   obtain ⟨⟨⟨⟨⟨⟨rfl,rfl⟩,hdel⟩,hdct⟩,ht⟩,hok⟩,hni⟩:=e
   obtain ⟨nm,bs,mro,ns,qn,hd,sn,sub,ab,col,del⟩:=cd
   dsimp only at hm hdel hok hni hdct
   subst hm hdel hdct
   have hsl:sl = #[k0,k1,k2,k3,some (.builtin "ValueError.__new__"),k5]:=by
    cases sl
    simpa using hs
   subst hsl
   have G:h.Ns ns (h.nsMap ns):=.of_isNs (PySem.W.isNs_of_in X hok)
   exact ⟨nm,qn,ns,bs,bm,sn,sub,ab,col,dd,k0,k1,k2,k3,k5,_,X _ _ ho,G,ns_some X G hni,PySem.W.tail_of_in X ht⟩
  ·cases e
 ·cases e
section
variable {prog:Program} {w:World} {A:Around} {E:Value→Shared→Prop} {s:Shared} {K:PySem.W.Frag} {C:Addr}
theorem exc_type {h:Heap} {g:Array GenState} {d:Drawn} {t:Nat} {os:OsState} {nm q:Str} {N f:Addr} {bs bm:List Value} {sn:List Str} {sub:List Value} {ab:Bool} {col:Option Bool} {dd:Option Addr} {k0 k1 k2 k3 k5:Option Value} {mN:Str→Option Value} {rest:List Value} {oI:Obj}
  {Q:Fin→Shared→Prop} (T:OwnTail h bmV bm) (hC:h.get? C=some (excClassObj nm q C N bs bm true sn sub ab col dd k0 k1 k2 k3 k5 "ValueError.__new__")) (hN:h.Ns N mN) (hi:mN "__init__" = some (.ref f)) (hf:h.get? f=some oI) (hfc:oI.cls=.type "function") (hr:rest.length≤sizeLine)
  (hq:∀ h' e,Heap.MadeExcOf h h' e (.ref C) rest→h.objs.size≤e→wpAny (model prog w) A (call (.ref f) (.ref e :: rest)) (fun r s'=>r=.none∧Q (.done (.ret (.ref e))) s') E ⟨h',g,d,t,os⟩) :
  wpAny (model prog w) A (Builtin.«type.__call__» ⟨.ref C :: rest,[]⟩) Q E ⟨h,g,d,t,os⟩:=by
 have F:=PySem.F.excBase_ValueError
 repeat (first | with_reducible refine wpAny_loadPart_at hC ?_ | with_reducible refine wpAny_madeBy_exc hC ?_ | wp_step)
 refine codeAny_call_builtin_code (Code.quiet_builtin _ F.quiet) (wpAny_check_new_subT F T hC (codeAny_exc_new_subT F T hC ?_ hr))
 show wpAny _ _ _ _ _ _
 have kp:∀ b o,h.get? b=some o→((h.push { cls:=.type "tuple",data:=.seq rest.toArray }).push { cls:=.ref C,data:=.fields #[.ref h.objs.size,.none,.none,.none,.bool false,.none] }).get? b=some o:=fun b o e=>Heap.get?_push_of_some _ (Heap.get?_push_of_some _ e)
 have hx:((h.push { cls:=.type "tuple",data:=.seq rest.toArray }).push { cls:=.ref C,data:=.fields #[.ref h.objs.size,.none,.none,.none,.bool false,.none] }).get? (h.objs.size+1)=some
   {cls:=.ref C,data:=.fields #[.ref h.objs.size,.none,.none,.none,.bool false,.none] }:=by heap_get
 have hC1:=kp _ _ hC
 have hf1:=kp _ _ hf
 have hN1:=hN.keeps kp
 have T1:=T.keeps kp
 have cc:(Value.ref C :: bm).contains (.ref C)=true:=by simp
 unfold isInstance
 repeat (first | with_reducible refine wpAny_loadPart_at hx ?_ | (with_reducible refine wpAny_isSubtype_exc hC1 ?_; rw [cc]) | wp_step)
 show wpAny _ _ (typeLookup (.ref C) _) _ _ _
 refine wpAny_typeLookup_tail hC1 hN1 T1 F.mroIs F.init.lookup ?_
 rw [hi]
 refine wpAny_holding (wpAny_bind ?_)
 unfold bindSpecial
 refine wpAny_bind (wpAny_typeOf (T:="function") ⟨_,hf1,hfc⟩ ?_)
 rw [if_pos (by decide)]
 refine wpAny_pure (wpAny_bind (wpAny_mono (hq _ (h.objs.size+1) ⟨kp,Heap.get?_none_of_le (Nat.le_succ _),h.objs.size,hx,Heap.get?_none_of_le (Nat.le_refl _),Heap.get?_push_of_some _ (Heap.get?_push_size _ rfl)⟩ (Nat.le_succ _)) (fun r s' z=>?_) fun _ _ z=>z))
 obtain ⟨rfl,hQ⟩:=z
 wp_walk
 exact hQ
theorem exc_call {h:Heap} {g:Array GenState} {d:Drawn} {t:Nat} {os:OsState} {nm q:Str} {N:Addr} {bs bm:List Value} {sn:List Str} {sub:List Value} {ab:Bool} {col:Option Bool} {dd:Option Addr} {k0 k1 k2 k3 k5:Option Value} {rest:List Value} {Q:Value→Shared→Prop}
  (hC:h.get? C=some (excClassObj nm q C N bs bm true sn sub ab col dd k0 k1 k2 k3 k5 "ValueError.__new__"))
  (hb:wpAny (model prog w) (A.under (.builtin "type.__call__" ⟨.ref C :: rest,[]⟩)) (Builtin.«type.__call__» ⟨.ref C :: rest,[]⟩) (fun fin s'=>∃ v,fin=.done (.ret v)∧Q v s') E ⟨h,g,d,t,os⟩) :
  wpAny (model prog w) A (call (.ref C) rest) Q E ⟨h,g,d,t,os⟩:=by
 have f1:=tc_lookup
 have f2:=tc_bind (.ref C)
 have hT:(⟨h,g,d,t,os⟩:Shared).TypeIs (.ref C) "type":=⟨_,hC,rfl⟩
 refine wpAny_call (codeAny_of_tree ?_)
 show wpAny _ _ (callAny (.ref C) _) _ _ _
 repeat (any_goals (first | assumption | with_reducible refine wpAny_loadPart_at hC ?_ | wp_step))
 refine ⟨rfl,?_⟩
 refine codeAny_call_builtin_at (Code.quiet_builtin _ (by decide +kernel)) entry_typeCall (wpAny_check_type_call_sub hC (wpAny_mono hb (fun fin s' z=>?_) fun _ _ z=>z))
 obtain ⟨v,rfl,hv⟩:=z
 exact hv
theorem exc_make {rest:List Value} {f:Addr} {oI:Obj} {Q:Value→Shared→Prop} (c:ExcC K s.heap C (some (.ref f))) (hf:s.heap.get? f=some oI) (hfc:oI.cls=.type "function") (hr:rest.length≤sizeLine)
  (hq:∀ h' e,Heap.MadeExcOf s.heap h' e (.ref C) rest→s.heap.objs.size≤e→wpAny (model prog w) (A.under (.builtin "type.__call__" ⟨.ref C :: rest,[]⟩)) (call (.ref f) (.ref e :: rest)) (fun r s'=>r=.none∧Q (.ref e) s') E { s with heap:=h' }) :
  wpAny (model prog w) A (call (.ref C) rest) Q E s:=by
 obtain ⟨nm,q,N,bs,bm,sn,sub,ab,col,dd,k0,k1,k2,k3,k5,mN,hC,hN,hi,T⟩:=c.obj
 obtain ⟨hh,g,d,t,os⟩:=s
 exact exc_call hC (exc_type T hC hN hi hf hfc hr fun h' e m le=>wpAny_mono (hq h' e m le) (fun r s' z=>⟨z.1,_,rfl,z.2⟩) fun _ _ z=>z)
end
abbrev exO (C T:Addr) (d:Option Addr):Obj:={ cls:=.ref C,dict:=d,data:=.fields #[.ref T,.none,.none,.none,.bool false,.none] }
section
variable {prog:Program} {w:World} {A:Around} {E:Value→Shared→Prop} {s:Shared} {K:PySem.W.Frag} {x C:Addr} {ox:Obj} {od:Option Obj} {name:Str}
theorem exc_ga {tk:Tok} {fill ex:Bool} {Q:Value→Shared→Prop} (X:K.In s.heap) (I:PySem.W.InstAt s.heap x ox C od) (hga:PySem.W.findIn K (.ref C) "__getattribute__" = some (some (.builtin "BaseException.__getattribute__")))
  (hgn:PySem.W.findIn K (.ref C) "__getattr__" = some none) (hbe:PySem.W.mroIn K C (.type "BaseException")=some true)
  (h:wpAny (model prog w) A.in1 (Builtin.«object.__getattribute__» ⟨[.ref x,.str name tk],[]⟩) (fun fin s'=>match fin with | .done (.ret v)=>wpAny (model prog w) A (handedOut v) Q E s' | _=>False) (fun _ _=>False) s) :
  wpAny (model prog w) A (getAttrBy (.ref x) (.str name tk) fill ex) Q E s:=by
 have L0:=I.type (M:=model prog w)
 have L1:=PySem.W.looks_findIn (M:=model prog w) X hga
 have L2:=PySem.W.looks_findIn (M:=model prog w) X hgn
 have L3:PySem.W.Looks (model prog w) s.heap (isInstance (.ref x) (.type "BaseException")) true:=L0.andThen (PySem.W.looks_mroIn X hbe)
 have G:=PySem.F.attr_ValueError.ga
 have hne:(Value.builtin "BaseException.__getattribute__" == Value.builtin "object.__getattribute__")=false:=by decide +kernel
 unfold getAttrBy
 refine wpAny_holding (wpAny_bind (L0.here (wpAny_bind (L1.here ?_))))
 show wpAny _ _ (if (onTheHeap (Value.ref C) && Value.builtin "BaseException.__getattribute__" == Value.builtin "object.__getattribute__")=true then getAttrEveryday (.ref x) (.str name tk) fill else getAttrByItsOwn (.ref x) (.str name tk) (.ref C) (.builtin "BaseException.__getattribute__") fill ex) _ _ _
 rw [if_neg (by rw [hne,Bool.and_false]; decide)]
 unfold getAttrByItsOwn
 refine wpAny_bind (m:=hookBefore (.ref C)) (show wpAny _ _ (typeLookup (.ref C) "__getattr__") _ _ _ from L2.here ?_)
 refine wpAny_bind (wpAny_attempt (wpAny_holding ?_))
 have hno:¬ (ex && onTheHeap (Value.builtin "BaseException.__getattribute__"))=true:=by
  show ¬ (ex && false)=true
  rw [Bool.and_false]
  decide
 unfold callGetattribute
 rw [if_neg hno]
 unfold boundAndCalled
 rw [G.bind]
 refine wpAny_bind (wpAny_pure ?_)
 show wpAny _ _ (call (.builtin "BaseException.__getattribute__") [.ref x,.str name tk]) _ _ _
 have k1:builtinKind "BaseException.__getattribute__" = some .slot:=by decide +kernel
 have k2:splitId "BaseException.__getattribute__" = some ("BaseException","__getattribute__"):=by decide +kernel
 refine wpAny_call ?_
 refine codeAny_call_builtin G.plain PySem.F.entry_bexc_ga ?_
 refine @PySem.W.check_slot (model prog w) _ _ s "BaseException.__getattribute__" "BaseException" "__getattribute__" (.ref x) [.str name tk] [] _ k1 k2 L3 (PySem.F.args_bexc_ga _ _) ?_
 refine wpAny_mono h (fun fin s' z=>?_) fun _ _ z=>z.elim
 rcases fin with (_ | _ | _ | _) | _ <;> first | exact z | exact z.elim
theorem exc_value {v:Value} {ex:Bool} {Q:Value→Shared→Prop} (X:K.In s.heap) (I:PySem.W.InstAt s.heap x ox C od) (hga:PySem.W.findIn K (.ref C) "__getattribute__" = some (some (.builtin "BaseException.__getattribute__")))
  (hgn:PySem.W.findIn K (.ref C) "__getattr__" = some none) (hbe:PySem.W.mroIn K C (.type "BaseException")=some true) (hf:PySem.W.findObj K C od name=some (.value v)) (hh:PySem.W.handedIn v=true)
  (h:Q v { s with toks:=s.toks+1 }):wpAny (model prog w) A (getAttr (.ref x) name ex) Q E s:=by
 unfold getAttr
 refine wpAny_bind (wpAny_mkText ?_)
 refine exc_ga (s:={ s with toks:=s.toks+1 }) X I hga hgn hbe ?_
 obtain ⟨hh',g,d,t,os⟩:=s
 have L0:=I.type (M:=model prog w)
 have L1:=PySem.W.looks_find (M:=model prog w) X I hf
 refine wpAny_bind (wpAny_pure ?_)
 refine wpAny_bind (wpAny_pure ?_)
 refine wpAny_bind (L0.at ?_)
 refine wpAny_bind (L1.at ?_)
 refine wpAny_pure ?_
 exact PySem.W.handed_on hh h
theorem exc_class {Q:Option Value→Shared→Prop} (X:K.In s.heap) (I:PySem.W.InstAt s.heap x ox C od) (hga:PySem.W.findIn K (.ref C) "__getattribute__" = some (some (.builtin "BaseException.__getattribute__")))
  (hgn:PySem.W.findIn K (.ref C) "__getattr__" = some none) (hbe:PySem.W.mroIn K C (.type "BaseException")=some true) (hm:PySem.W.mroIn K C (.type "object")=some true)
  (hf:PySem.W.findObj K C od "__class__" = some (.bind (.builtin "getset_descriptor.__get__") (.builtin "object.__class__"))) (h:Q (some (.ref C)) { s with toks:=s.toks+1 }):wpAny (model prog w) A (getAttr? (.ref x) "__class__") Q E s:=by
 unfold getAttr? getAttrBy?
 refine wpAny_bind (wpAny_mkText (wpAny_bind (wpAny_attempt ?_)))
 refine exc_ga (s:={ s with toks:=s.toks+1 }) X I hga hgn hbe ?_
 obtain ⟨hh',g,d,t,os⟩:=s
 have L0:=I.type (M:=model prog w)
 have L1:=PySem.W.looks_find (M:=model prog w) X I hf
 refine wpAny_bind (wpAny_pure ?_)
 refine wpAny_bind (wpAny_pure ?_)
 refine wpAny_bind (L0.at ?_)
 refine wpAny_bind (L1.at ?_)
 show wpAny _ _ (holding [Value.builtin "object.__class__"] (call (.builtin "getset_descriptor.__get__") [.builtin "object.__class__",.ref x,.ref C]) >>= ret) _ _ _
 refine wpAny_bind (wpAny_holding (wpAny_call (PySem.W.class_get (s:=⟨hh',g,d,t+1,os⟩) X I hm ?_)))
 refine wpAny_pure ?_
 exact PySem.W.handed_on rfl (wpAny_pure h)
def passB:List Value→Bool
 | []=>false
 | v :: r=>(v :: r)==bmV || match v with | .ref _=>passB r | _=>false
theorem pass_has:∀ {l:List Value},passB l=true→l.contains (.type "object")=true
 | [],e=>by cases e
 | v :: r,e=>by
  unfold passB at e
  rcases Bool.or_eq_true_iff.mp e with z | z
  ·rw [beq_iff_eq.mp z]; decide
  ·cases v with
   | ref a=>rw [List.contains_cons,pass_has (l:=r) z,Bool.or_true]
   | _=>cases z
theorem pass_ok (self:Value):∀ {l:List Value},passB l=true→refuseLoop self "__setattr__" l=pure ()
 | [],e=>by cases e
 | v :: r,e=>by
  unfold passB at e
  rcases Bool.or_eq_true_iff.mp e with z | z
  ·rw [beq_iff_eq.mp z]; exact PySem.F.store_ValueError.passes self
  ·cases v with
   | ref a=>rw [refuseLoop_ref]; exact pass_ok self z
   | _=>cases z
theorem exc_osa {v:Value} {tk:Tok} {cd:ClassData} {R:Result→Shared→Prop} (X:K.In s.heap) (I:PySem.W.InstAt s.heap x ox C od) (hc:PySem.W.clsIn K C=some cd) (hp:passB cd.mro=true) (ha:PySem.W.findIn K (.ref C) name=some none)
  (h:wpAny (model prog w) A.in1 (Builtin.ObjectAttr.storeInOwnDict (.ref x) (.ref C) (.str name tk) name v false) (fun fin s'=>match fin with | .done f=>R (.ok f) s' | .again c'=>c'.quiet=true∧codeAny (model prog w) A c' R s') (fun e s'=>R (.error e) s') s) :
  codeAny (model prog w) A (.call (.builtin "object.__setattr__") ⟨[.ref x,.str name tk,v],[]⟩) R s:=by
 have SF:=PySem.F.store_object
 have ne:cd.mro.isEmpty=false:=by cases q:cd.mro with | nil=>rw [q] at hp; cases hp | cons _ _=>rfl
 have L0:=I.type (M:=model prog w)
 have sub:PySem.W.Looks (model prog w) s.heap (isInstance (.ref x) (.type "object")) true:=L0.andThen (PySem.W.looks_mroIn X (by unfold PySem.W.mroIn; rw [hc,Option.bind_some,if_neg (by rw [ne]; decide),pass_has hp]))
 refine codeAny_call_builtin SF.slot.plain SF.entry ?_
 refine @PySem.W.check_slot (model prog w) _ _ s "object.__setattr__" "object" "__setattr__" (.ref x) [.str name tk,v] [] _ SF.kind SF.split sub (SF.args _ _ _) ?_
 have hm:PySem.W.Looks (model prog w) s.heap (mroOf (.ref C)) cd.mro:=(PySem.W.looks_clsIn X hc).andThen .now
 rw [PySem.W.osa_eq,refuse_eq]
 refine wpAny_bind (wpAny_bind (L0.here (wpAny_bind (hm.here ?_))))
 rw [pass_ok _ hp]
 refine wpAny_pure (wpAny_bind (L0.here (wpAny_bind ((PySem.W.looks_findIn X ha).here (wpAny_bind (wpAny_pure ?_))))))
 exact h
theorem exc_first {T:Addr} {v:Value} {tk:Tok} {cd:ClassData} {Q:Fin→Shared→Prop} (X:K.In s.heap) (hx:s.heap.get? x=some (exO C T none)) (hc:PySem.W.clsIn K C=some cd) (hd:cd.hasDict=true)
  (h:∀ h',h'.Ns1 s.heap.objs.size (fun y=>if y=name then some v else none)→Heap.SameBut s.heap.objs.size ((s.heap.push PySem.W.emptyDict).update x fun o=>{ o with dict:=some s.heap.objs.size }) h'→Q (.done (.ret .none)) { s with heap:=h',toks:=s.toks+1 }) :
  wpAny (model prog w) A (Builtin.ObjectAttr.storeInOwnDict (.ref x) (.ref C) (.str name tk) name v false) Q E s:=by
 have hx1:(s.heap.push PySem.W.emptyDict).get? x=some (exO C T none):=Heap.get?_push_of_some _ hx
 have hxs:x≠s.heap.objs.size:=Nat.ne_of_lt (Heap.lt_size hx)
 refine wpAny_bind (wpAny_pure (wpAny_bind (wpAny_bind (wpAny_loadPart hx (wpAny_bind (PySem.W.Looks.here (PySem.W.looks_clsIn X hc) ?_))))))
 rw [hd]
 refine wpAny_bind (wpAny_alloc ?_)
 refine wpAny_bind (wpAny_update hx1 ?_)
 refine wpAny_pure ?_
 have gd:((s.heap.push PySem.W.emptyDict).update x fun o=>{ o with dict:=some s.heap.objs.size }).get? s.heap.objs.size=some PySem.W.emptyDict:=(Heap.get?_update_ne _ _ _ _ hxs.symm).trans (Heap.get?_push_size _ rfl)
 have nd:((s.heap.push PySem.W.emptyDict).update x fun o=>{ o with dict:=some s.heap.objs.size }).Ns s.heap.objs.size (fun _=>none):=⟨_,#[],_,gd,rfl,fun e he=>absurd he (by simp),fun _=>rfl⟩
 show wpAny _ _ (Builtin.ObjectAttr.storeInDict s.heap.objs.size (.str name tk) name v) _ _ _
 unfold Builtin.ObjectAttr.storeInDict Builtin.ObjectAttr.newKeyGuard
 refine wpAny_bind (wpAny_pure (wpAny_bind (wpAny_nsSet1 (s:={ s with heap:=(s.heap.push PySem.W.emptyDict).update x fun o=>{ o with dict:=some s.heap.objs.size } }) (Heap.Ns1.of_empty nd) fun h' hn' hs=>?_)))
 obtain ⟨oD,esD,epD,hoD,hdD,hcD⟩:=hn'.count (Within.cons name v Within.nil)
 refine wpAny_bind (wpAny_lookBehind hoD (by rw [hdD]; exact pastItsLine_dict (Nat.le_trans hcD (by rw [List.length_cons,List.length_nil,sizeLine_eq]; omega))) ?_)
 exact wpAny_pure (h h' hn' hs)
theorem exc_next {T dx:Addr} {v:Value} {tk:Tok} {cd:ClassData} {mA:Str→Option Value} {ns:List Str} {Q:Fin→Shared→Prop} (X:K.In s.heap) (hx:s.heap.get? x=some (exO C T (some dx))) (hn:s.heap.Ns1 dx mA) (hw:Within mA ns) (hz:ns.length < 1000) (hc:PySem.W.clsIn K C=some cd) (hd:cd.hasDict=true)
  (h:∀ h',h'.Ns1 dx (fun y=>if y=name then some v else mA y)→Heap.SameBut dx s.heap h'→Q (.done (.ret .none)) { s with heap:=h',toks:=s.toks+1 }) :
  wpAny (model prog w) A (Builtin.ObjectAttr.storeInOwnDict (.ref x) (.ref C) (.str name tk) name v false) Q E s:=by
 refine wpAny_bind (wpAny_pure (wpAny_bind (wpAny_bind (wpAny_loadPart hx (wpAny_bind (PySem.W.Looks.here (PySem.W.looks_clsIn X hc) ?_))))))
 rw [hd]
 refine wpAny_pure (a:=some dx) ?_
 show wpAny _ _ (Builtin.ObjectAttr.storeInDict dx (.str name tk) name v) _ _ _
 unfold Builtin.ObjectAttr.storeInDict Builtin.ObjectAttr.newKeyGuard
 refine wpAny_bind (wpAny_pure (wpAny_bind (wpAny_nsSet1 hn fun h' hn' hs=>?_)))
 obtain ⟨oD,esD,epD,hoD,hdD,hcD⟩:=hn'.count (Within.cons name v hw)
 refine wpAny_bind (wpAny_lookBehind hoD (by rw [hdD]; exact pastItsLine_dict (Nat.le_trans hcD (by rw [List.length_cons,sizeLine_eq]; omega))) ?_)
 exact wpAny_pure (h h' hn' hs)
end
end L2
namespace L2
open PySem PySem.Spec PyProof.Rows
def exH (a C:Addr) (d:Option Addr):HO:=.ext fun h=>∃ T,h.get? a=some (exO C T d)
def xdH (dx:Addr) (fs:List (Str × V)):HO:=.ext fun h=>∃ mA,h.Ns1 dx mA∧(∀ f,RelO (fs.lookup f) (mA f))∧PySem.Within mA (fs.map (·.1))
def excF (K:PySem.W.Frag) (C:Addr):Bool:=
 PySem.W.findIn K (.ref C) "__getattribute__" == some (some (.builtin "BaseException.__getattribute__")) && PySem.W.findIn K (.ref C) "__getattr__" == some none && PySem.W.mroIn K C (.type "BaseException")==some true && PySem.W.mroIn K C (.type "object")==some true &&
  (PySem.W.clsIn K C).any (fun cd=>cd.hasDict && passB cd.mro) && PySem.W.findIn K (.ref C) "__setattr__" == some (some (.builtin "object.__setattr__")) && PySem.W.findIn K (.ref C) "__class__" == some (some (.builtin "object.__class__")) &&
  PySem.W.specialIn K (.builtin "object.__class__") "__get__" == some (some (.builtin "getset_descriptor.__get__")) && PySem.W.takesIn K (.builtin "object.__class__")==some true
structure ExcF (K:PySem.W.Frag) (C:Addr):Prop where
 ga:PySem.W.findIn K (.ref C) "__getattribute__" = some (some (.builtin "BaseException.__getattribute__"))
 gn:PySem.W.findIn K (.ref C) "__getattr__" = some none
 be:PySem.W.mroIn K C (.type "BaseException")=some true
 ob:PySem.W.mroIn K C (.type "object")=some true
 cl:∃ cd,PySem.W.clsIn K C=some cd∧cd.hasDict=true∧passB cd.mro=true
 sa:PySem.W.findIn K (.ref C) "__setattr__" = some (some (.builtin "object.__setattr__"))
 cc:PySem.W.findIn K (.ref C) "__class__" = some (some (.builtin "object.__class__"))
 cg:PySem.W.specialIn K (.builtin "object.__class__") "__get__" = some (some (.builtin "getset_descriptor.__get__"))
 ct:PySem.W.takesIn K (.builtin "object.__class__")=some true
theorem excF_of {K:PySem.W.Frag} {C:Addr} (e:excF K C=true):ExcF K C:=by
 unfold excF at e
 simp only [Bool.and_eq_true,beq_iff_eq] at e
 obtain ⟨⟨⟨⟨⟨⟨⟨⟨e1,e2⟩,e3⟩,e4⟩,e5⟩,e6⟩,e7⟩,e8⟩,e9⟩:=e
 obtain ⟨cd,h1,h2⟩:=PySem.W.any_some e5
 simp only [Bool.and_eq_true] at h2
 exact ⟨e1,e2,e3,e4,⟨cd,h1,h2.1,h2.2⟩,e6,e7,e8,e9⟩
theorem ExcF.hasD {K:PySem.W.Frag} {C:Addr} (c:ExcF K C):PySem.W.hasDictIn K C=true:=by
 obtain ⟨cd,h1,h2,_⟩:=c.cl
 unfold PySem.W.hasDictIn
 rw [h1]
 exact h2
section
variable {X:Cx} {pins:List (Addr × Obj)} {σ:St} {H:Hp} {s:Shared} {a C:Addr} {fs:List (Str × V)} {A:Around} {E:Value→Shared→Prop}
theorem setx_first {f:Str} {y:V} {u:Value} {Q:Unit→Shared→Prop} (I:Inv X pins σ H s) (e:H a=some (exH a C none)) (c:ExcF X.K C) (n:NoAttr X.K C f) (ry:RelV y u)
  (h:∀ dx s',H dx=none→Inv X pins σ (upd (upd H a (exH a C (some dx))) dx (xdH dx [(f,y)])) s'→Q () s'):wpAny (model X.prog X.w) A (setAttr (.ref a) f u) Q E s:=by
 obtain ⟨⟨T,g⟩,_,_⟩:=(show ObjOk X.prog X.w H s.heap a (exH a C none) from I.hok a _ e)
 have J:PySem.W.InstAt s.heap a (exO C T none) C none:=⟨g,rfl,rfl,True.intro⟩
 obtain ⟨cd,h1,h2,h3⟩:=c.cl
 refine PySem.W.set_plain I.kIn J c.sa ?_
 refine exc_osa (s:={ s with toks:=s.toks+1 }) I.kIn J h1 h3 n ?_
 refine exc_first (s:={ s with toks:=s.toks+1 }) I.kIn g h1 h2 fun h' hn hs=>?_
 show Q () _
 dsimp only at hn hs
 generalize hD:s.heap.objs.size=D at hn hs
 have hnD:H D=none:=I.hok.fresh (by rw [hD]; exact Nat.le_refl _)
 have naD:a≠D:=ne_of_none e hnD
 have I1:Inv X pins σ H { s with heap:=s.heap.push PySem.W.emptyDict }:=I.kept (t':=s.toks) fun b o q=>Heap.get?_push_of_some _ q
 have g1:(s.heap.push PySem.W.emptyDict).get? a=some (exO C T none):=Heap.get?_push_of_some _ g
 have g2:((s.heap.push PySem.W.emptyDict).update a fun o=>{ o with dict:=some D }).get? a=some (exO C T (some D)):=Heap.get?_update_self _ g1 rfl
 have I2:Inv X pins σ (upd H a (exH a C (some D))) { s with heap:=(s.heap.push PySem.W.emptyDict).update a fun o=>{ o with dict:=some D } }:=
  I1.write (t':=s.toks) (x:=a) (e:=a) (by rw [e]; exact True.intro) (.inl rfl) (fun b o hb q=>(Heap.get?_update_other _ _ (Ne.symm hb)).trans q) ⟨_,g2⟩ ⟨⟨T,g2⟩,⟨_,g2⟩,fun k1 k2 ⟨T',q⟩ k=>⟨T',k _ q⟩⟩
 have fD:Far X pins D:=I.far (by rw [hD]; exact Nat.le_refl _)
 have hn2:upd H a (exH a C (some D)) D=none:=(upd_ne (Ne.symm naD)).trans hnD
 have I3:Inv X pins σ (upd H a (exH a C (some D))) { s with heap:=h',toks:=s.toks+2 }:=Inv.turned (s:={ s with heap:=(s.heap.push PySem.W.emptyDict).update a fun o=>{ o with dict:=some D } }) (t':=s.toks+2) (it:=D) I2 (fun b o hb q=>(hs.2 b hb).trans q) hn2 fD.loc (.inr fD.new) fD.cell fD.pin
 have ok:ObjOk X.prog X.w (upd (upd H a (exH a C (some D))) D (xdH D [(f,y)])) h' D (xdH D [(f,y)]):=by
  refine ⟨⟨_,hn,fun k=>?_,fun k hk=>?_⟩,let ⟨o,_,_,q,_⟩:=hn; ⟨o,q⟩,fun k1 k2 ⟨mA,⟨o,es,ep,q1,q2⟩,q3⟩ k=>⟨mA,⟨o,es,ep,k _ q1,q2⟩,q3⟩⟩
  ·rw [List.lookup_cons]
   by_cases z:k=f
   ·rw [if_pos z,z]
    simp only [beq_self_eq_true]
    exact ry
   ·rw [if_neg z,show (k==f)=false from beq_eq_false_iff_ne.mpr z]
    exact True.intro
  ·by_cases z:k=f
   ·rw [z]; exact List.mem_cons_self
   ·exact absurd (if_neg z) hk
 exact h D _ hnD (I3.adopt (a:=D) (o:=xdH D [(f,y)]) fD.new hn2 fD.loc fD.cell fD.pin ok)
theorem setx_next {f:Str} {y:V} {u:Value} {dx:Addr} {Q:Unit→Shared→Prop} (I:Inv X pins σ H s) (e:H a=some (exH a C (some dx))) (ed:H dx=some (xdH dx fs)) (c:ExcF X.K C) (n:NoAttr X.K C f) (hl:fs.length < 900) (ry:RelV y u)
  (h:∀ s',Inv X pins σ (upd H dx (xdH dx (putF f y fs))) s'→Q () s'):wpAny (model X.prog X.w) A (setAttr (.ref a) f u) Q E s:=by
 obtain ⟨⟨T,g⟩,_,_⟩:=(show ObjOk X.prog X.w H s.heap a (exH a C (some dx)) from I.hok a _ e)
 obtain ⟨⟨mA,hn,r,wi⟩,⟨o,ho⟩,_⟩:=(show ObjOk X.prog X.w H s.heap dx (xdH dx fs) from I.hok dx _ ed)
 have J:PySem.W.InstAt s.heap a (exO C T (some dx)) C (some o):=⟨g,rfl,rfl,ho⟩
 obtain ⟨cd,h1,h2,h3⟩:=c.cl
 refine PySem.W.set_plain I.kIn J c.sa ?_
 refine exc_osa (s:={ s with toks:=s.toks+1 }) I.kIn J h1 h3 n ?_
 refine exc_next (s:={ s with toks:=s.toks+1 }) (ns:=fs.map (·.1)) I.kIn g hn wi (by rw [List.length_map]; omega) h1 h2 fun h' hn' hs=>?_
 refine h _ (I.write (t':=s.toks+2) (x:=dx) (e:=dx) (by rw [ed]; exact True.intro) (.inl rfl) (fun b o hb q=>(hs.2 b hb).trans q) (let ⟨o,_,_,q,_⟩:=hn'; ⟨o,q⟩) ?_)
 refine ⟨⟨_,hn',fun k=>?_,fun k hk=>?_⟩,let ⟨o,_,_,q,_⟩:=hn'; ⟨o,q⟩,fun k1 k2 ⟨mA,⟨o,es,ep,q1,q2⟩,q3⟩ k=>⟨mA,⟨o,es,ep,k _ q1,q2⟩,q3⟩⟩
 ·rw [lookup_putF]
  by_cases q:k=f
  ·rw [if_pos q,if_pos q]; exact ry
  ·rw [if_neg q,if_neg q]; exact r k
 ·by_cases q:k=f
  ·rw [q]; exact (keys_putF f y fs).1
  ·exact (keys_putF f y fs).2 k (wi k fun z=>hk ((if_neg q).trans z))
def sXFld (K:PySem.W.Frag) (ta tv:TE) (f:Str):TS:=fun D σ H=>tv σ H fun y H1=>ta σ H1 fun x H2=>∃ a C,x=.ref a∧ExcF K C∧NoAttr K C f∧
 ((H2 a=some (exH a C none)∧∀ dx,H2 dx=none→D.nx σ (upd (upd H2 a (exH a C (some dx))) dx (xdH dx [(f,y)])))∨
  ∃ dx fs,H2 a=some (exH a C (some dx))∧H2 dx=some (xdH dx fs)∧fs.length < 900∧D.nx σ (upd H2 dx (xdH dx (putF f y fs))))
theorem ps_xfld {K:PySem.W.Frag} {o value:Expr} {ta tv:TE} {f:Str} {pos pos':Pos} (ha:PE X o ta) (hv:PE X value tv) (hs:swapsWith value (some (.Attribute o f pos')) pos.line X.env=pure false:=by rfl) (hK:X.K=K:=by rfl) :
  PS X (.Assign [.Attribute o f pos'] value pos) (sXFld K ta tv f):=by
 subst hK
 intro pins s σ H D I h
 refine plainObj_wpAny_Assign_Attribute (thn (hv pins s σ H _ I h) fun u s1 ⟨y,H1,I1,ry,q⟩=>thn (ha pins s1 σ H1 _ I1 q) fun ov s2 ⟨x,H2,I2,rx,a,C,ex,c,n,q2⟩=>?_) hs
 subst ex
 obtain rfl:ov=Value.ref a:=rx
 rcases q2 with ⟨e,q2⟩ | ⟨dx,fs,e,ed,l,q2⟩
 ·exact setx_first I2 e c n ry fun dx s3 hd I3=>⟨σ,_,I3,q2 dx hd⟩
 ·exact setx_next I2 e ed c n l ry fun s3 I3=>⟨σ,_,I3,q2⟩
theorem ex_new {h':Heap} {e C:Addr} {us:List Value} (I:Inv X pins σ H s) (m:Heap.MadeExcOf s.heap h' e (.ref C) us) (le:s.heap.objs.size≤e):Inv X pins σ (upd H e (exH e C none)) { s with heap:=h' }:=by
 obtain ⟨T,g,_⟩:=m.there
 exact I.laid (t':=s.toks) m.keeps le ⟨⟨T,g⟩,⟨_,g⟩,fun k1 k2 ⟨T',q⟩ k=>⟨T',k _ q⟩⟩
def tExc (C:Addr) (sp:Sp) (t:TA):TE:=fun σ H Q=>t σ H fun vs H1=>vs.length≤1000∧∀ e,H1 e=none→sp (.ref e :: vs) (upd H1 e (exH e C none)) (fun v H2=>v=.non∧Q (.ref e) H2) E0
theorem pe_exc {k:Nat} {f:Addr} {fd:FuncData} {ps:List Str} {sp:Sp} {x:Str} {p pos:Pos} {e:Expr} {es:List Expr} {t:TA} {oI:Obj} (c:excK X.K C (some (.ref f))=true) (hk:PySem.W.keepIn X.K (.ref C)=true) (hm:X.mg x=some (.ref C)) (hf:X.K.lookup f=some oI) (hfc:oI.cls=.type "function")
  (F:FnOk X.prog X.w X.K X.mg X.base CX0 k f fd ps sp) (hb:Binds X.K fd ps []) (hr:Room (k+1) X.A) (ha:PA X (e :: es) t) (hg:Gl X x:=by rfl) (hdb:(x==("__debug__" : Str))=false:=by decide)
  (he:starEach (e :: es) X.env=(false,eval e X.env) :: starEach es X.env:=by rfl) (hpl:(backTo pos (starEach es X.env)).any (·.1)=false:=by rfl):PE X (.Call (.Name x p) (e :: es) [] pos) (tExc C sp t):=by
 intro pins s σ H Q I h
 refine wpAny_Call_Name_kw (ld_glob I hg hm ?_ hdb)
 refine PySem.W.callWith_K (h₀:=X.base) I.ok.mod.kin hk (thn (ha pos pins s σ H _ I h) fun us s1 ⟨vs,H1,I1,r,hz,q⟩=>⟨I1.kIn,?_⟩) he hpl
 refine exc_make (excC_of I1.kIn c) (I1.kIn _ _ hf) hfc (by show us.length≤_; rw [← r.length]; exact line_le hz) fun h' a m le=>?_
 have I2:=ex_new I1 m le
 have hq:=q a (I1.hok.fresh le)
 have r2:Vals (V.ref a :: vs) (Value.ref a :: us):=.cons rfl r
 have hl:(Value.ref a :: us ++ ([]:List Value)).length=ps.length:=by
  rw [List.append_nil,← r2.length]
  exact F.len _ _ _ _ hq
 refine wpAny_call (codeAny_mono (F.run _ X.stack _ _ ⟨Value.ref a :: us,[]⟩ (Value.ref a :: us) _ _ E0 (hr.make C us []) (I2.env0.make C us []) (by have:=hb { s1 with heap:=h' } (Value.ref a :: us) I2.kIn hl; rwa [List.append_nil] at this) r2 hq) fun r s' z=>?_)
 cases r with
 | error e=>exact False.elim z
 | ok fl=>
  cases fl with
  | ret u=>
   obtain ⟨v,H',I3,rv,ev,q3⟩:=I2.after z
   subst ev
   exact ⟨rv,.ref a,H',I3,rfl,q3⟩
  | next=>exact False.elim z
  | brk=>exact False.elim z
  | cont=>exact False.elim z
theorem kitx_exc {K:PySem.W.Frag} {x D:Addr} {ox:Obj} {od:Option Obj} (c:ExcF K D):PySem.W.KitX K (.ref x) (.ref D) (fun h=>PySem.W.InstAt h x ox D od) where
 ty:=fun _ _ _ I=>I.type
 it:=fun _ _ X _=>by
  obtain ⟨cd,hc,_⟩:=c.cl
  unfold PySem.W.clsIn at hc
  split at hc
  ·rename_i ho
   intro A' Q' E' s' k q
   unfold isType loadHead
   exact wpAny_bind (wpAny_loadPart (k _ _ (X _ _ ho)) (wpAny_pure q))
  ·cases hc
 ne:=fun h tp dd its n sl X htp=>by
  obtain ⟨cd,hc,_⟩:=c.cl
  refine Bool.eq_false_iff.mpr fun q=>?_
  obtain rfl:D=tp:=Value.ref.inj (beq_iff_eq.mp q)
  unfold PySem.W.clsIn at hc
  split at hc
  ·rename_i ho
   cases (X _ _ ho).symm.trans htp
  ·cases hc
 ca:=fun X I k=>by
  obtain ⟨cd,hc,_⟩:=c.cl
  refine exc_class X I c.ga c.gn c.be c.ob ?_ k
  unfold PySem.W.findObj
  rw [hc,Option.bind_some,c.cc,Option.bind_some]
  simp [c.cg,c.ct]
structure CalX (P:Program) (w:World) (K:PySem.W.Frag) (mg:Str→Option Value) (base:Heap) (x:Str) (k:Nat) (ps:List Str) (sp:Sp) (C:Addr) where
 f:Addr
 fd:FuncData
 oI:Obj
 exc:excK K C (some (.ref f))=true
 kp:PySem.W.keepIn K (.ref C)=true
 at_:mg x=some (.ref C)
 lk:K.lookup f=some oI
 fc:oI.cls=.type "function"
 ok:FnOk P w K mg base CX0 k f fd ps sp
 b:Binds K fd ps []
theorem pe_x {k:Nat} {ps:List Str} {sp:Sp} {x:Str} {p pos:Pos} {e:Expr} {es:List Expr} {t:TA} (c:CalX X.prog X.w X.K X.mg X.base x k ps sp C) (hr:Room (k+1) X.A) (ha:PA X (e :: es) t) (hg:Gl X x:=by rfl) (hdb:(x==("__debug__" : Str))=false:=by decide)
  (he:starEach (e :: es) X.env=(false,eval e X.env) :: starEach es X.env:=by rfl) (hpl:(backTo pos (starEach es X.env)).any (·.1)=false:=by rfl):PE X (.Call (.Name x p) (e :: es) [] pos) (tExc C sp t):=
 pe_exc c.exc c.kp c.at_ c.lk c.fc c.ok c.b hr ha hg hdb he hpl
end
theorem bt_ValueError:bootBuiltins "ValueError" = some (.type "ValueError"):=by decide +kernel
def clsBody (s:Stmt):List Stmt:=match s with
 | .ClassDef _ _ _ b _ _ _ _ _ _ _=>b
 | _=>[]
end L2
namespace L2
open PySem PySem.Spec PyProof.Rows
section
variable {P:Program} {w:World} {A:Around} {E:Value→Shared→Prop} {s:Shared}
end
section
variable {X:Cx}
end
end L2
namespace L2
open PySem PySem.Spec PyProof.Rows
section
variable {P:Program} {w:World} {A:Around} {E:Value→Shared→Prop} {s:Shared} {d:Addr} {vs:List Value} {ep:Nat}
end
section
variable {X:Cx} {pins:List (Addr × Obj)} {σ:St} {H:Hp} {s:Shared} {x:Str} {k:Nat} {ps:List Str} {sp:Sp}
end
end L2
namespace L2
open PySem PySem.Spec PyProof.Rows
section
open PySem.W (KasT kas_asc kas_desc kas_tail3 kas_descPart kas_count kas_place kas_bin kas_sort kas_rev)
variable {n:Nat} {key:Nat→Nat} {p:Array Nat}
end
end L2
namespace L2
open PySem PySem.Spec PyProof.Rows
section
open PySem.W (kas_sort kas_ask kas_item)
variable {X:Cx} {pins:List (Addr × Obj)} {σ:St} {H:Hp} {s:Shared}
end
end L2
namespace L2
open PySem PySem.Spec PyProof.Rows
section
variable {P:Program} {w:World} {A:Around} {E:Value→Shared→Prop} {s:Shared}
set_option maxHeartbeats 3200000 in
end
section
variable {X:Cx}
end
end L2
namespace L2
open PySem PySem.Spec PyProof.Rows
section
variable {P:Program} {w:World} {A:Around} {E:Value→Shared→Prop} {s:Shared} {t r:Addr} {items:Array Value}
end
section
variable {X:Cx}
inductive rSlWI (K:PySem.W.Frag) (x:V) (lo:Option Int) (hi:Option Int) (H:Hp) (Q:VK):Prop
 | mk (a xs:_) (h1:x=.ref a) (h2:SqT K H a xs) (h3:(HT.sIx xs.length 0 lo=0∧HT.sIx xs.length xs.length hi=xs.length)) (h4:Q (.ref a) H):rSlWI K x lo hi H Q
def rSlW (K:PySem.W.Frag):V→Option Int→Option Int→Hp→VK→Prop:=fun x lo hi H Q=>rSlWI K x lo hi H Q
theorem sl_tupW {K:PySem.W.Frag} (hK:X.K=K:=by rfl):SlR X (rSlW K):=by
 subst hK
 intro pins s σ H x v vl vu lo hi sl Q I rx hs pl pu h
 obtain ⟨a,xs,rfl,hx,hw,q⟩:=h
 cases rx
 obtain ⟨its,r,ht,hz⟩:=I.tuple hx
 have hlen:its.toArray.size=xs.length:=by rw [List.size_toArray]; exact r.length.symm
 refine ⟨"tuple",_,PyProof.Rows.slot_tuple_getitem.lookup,ht.typeIs,?_⟩
 obtain ⟨os,hos,hcs,hds⟩:=id hs
 have hTs:s.TypeIs (.ref sl) "slice":=⟨os,hos,hcs⟩
 unfold getItem
 try with_reducible refine wpAny_holding ?_
 first | refine wpAny_bind (wpAny_pure ?_) | skip
 refine wpAny_bind (wpAny_sequenceKey ht.typeIs (by decide) (wpAny_bind (wpAny_callSpecial?_slot (name:=Str.ofString "__getitem__") ht.typeIs PyProof.Rows.slot_tuple_getitem (wpAny_call_entry PyProof.Rows.slot_tuple_getitem ht.typeIs entry_tuple_getitem ?_ (args_tuple_getitem _ _)))))
 refine (show wpAny _ _ (Builtin.Tuple.tupleItemsOf (.ref a) >>= _) _ _ s from wpAny_bind (tupleItemsOf_ ht (wpAny_bind (wpAny_typeOf hTs ?_))))
 rw [if_pos (by decide)]
 refine wpAny_bind (HT.sliceApplied_gen hs pl pu ?_)
 have yes:(((HT.sIx its.toArray.size 0 lo:Nat):Int)==0 && (1:Int)==1 && (HT.sIx its.toArray.size its.toArray.size hi - HT.sIx its.toArray.size 0 lo)==its.toArray.size)=true:=by
  rw [hlen,hw.1,hw.2]
  simp
 show wpAny _ _ (if (((HT.sIx its.toArray.size 0 lo:Nat):Int)==0 && (1:Int)==1 && (HT.sIx its.toArray.size its.toArray.size hi - HT.sIx its.toArray.size 0 lo)==its.toArray.size)=true then _ else _) _ _ s
 rw [if_pos yes]
 unfold Builtin.Tuple.tupleIsExact
 refine wpAny_bind (wpAny_bind (wpAny_typeOf ht.typeIs (wpAny_pure ?_)))
 rw [if_pos (by decide)]
 exact wpAny_bind (wpAny_rule (wpAny_pure ⟨_,rfl,wpAny_pure ⟨.ref a,H,I,rfl,q⟩⟩))
inductive rSlGI (x:V) (lo:Option Int) (hi:Option Int) (H:Hp) (Q:VK):Prop
 | mk (a xs:_) (h1:x=.ref a) (h2:H a=some (.tup xs)) (h3:∀ g H',Same H H'→H' g=some (.tup (cutV xs lo hi))→Q (.ref g) H'):rSlGI x lo hi H Q
def rSlG (K:PySem.W.Frag):V→Option Int→Option Int→Hp→VK→Prop:=fun x lo hi H Q=>rSlGI x lo hi H Q
theorem sl_tupG {K:PySem.W.Frag} (hK:X.K=K:=by rfl):SlR X (rSlG K):=by
 intro pins s σ H x v vl vu lo hi sl Q I rx hs pl pu h
 obtain ⟨a,xs,e,hx,q⟩:=h
 by_cases z:HT.sIx xs.length 0 lo=0∧HT.sIx xs.length xs.length hi=xs.length
 ·refine sl_tupW hK pins s σ H x v vl vu lo hi sl Q I rx hs pl pu ⟨a,xs,e,SqT.of hx,z,q a H (Same.refl _) ?_⟩
  have:cutV xs lo hi=xs:=by
   unfold cutV
   rw [z.1,z.2,List.drop_zero,Nat.sub_zero,List.take_length]
  rw [this]
  exact hx
 ·exact sl_tupK hK pins s σ H x v vl vu lo hi sl Q I rx hs pl pu ⟨a,xs,e,SqT.of hx,z,fun p hp=>q p _ (same_new hp _) upd_same⟩
def DKn (P:Program) (w:World) (K:PySem.W.Frag) (a:Addr) (kvs:List (Key × V)):Prop:=∃ o vs,K.lookup a=some o∧o.IsDictOf (mixKind P w) vs∧KV kvs vs
def tDGetC (P:Program) (w:World) (K:PySem.W.Frag) (td ty:TE):TE:=fun σ H Q=>td σ H fun x H1=>ty σ H1 fun y H2=>∃ a kvs k v,x=.ref a∧y=kV k∧DKn P w K a kvs∧valV kvs k=some v∧Q v H2
theorem pe_dgetC {K:PySem.W.Frag} {o i:Expr} {td ty:TE} {pos:Pos} (ho:PE X o td) (hi:PE X i ty) (hs:NoSl i) (hK:X.K=K:=by rfl):PE X (.Subscript o i pos) (tDGetC X.prog X.w K td ty):=by
 subst hK
 intro pins s σ H Q I h
 refine subD_of PySem.F.slot_dict_getitem.lookup hs (thn (ho pins s σ H _ I h) fun u s1 ⟨x,H1,I1,rx,q1⟩=>thn (hi pins s1 σ H1 _ I1 q1) fun iv s2 ⟨y,H2,I2,ry,a,kvs,k,v,ex,ey,⟨ob,vs,hk,hd,rel⟩,l,q2⟩=>?_)
 subst ex ey
 obtain rfl:u=Value.ref a:=rx
 have dd:s2.heap.DictOf (mixKind X.prog X.w) a vs:=Heap.dictOf_iff.mpr ⟨ob,I2.kIn a ob hk,hd⟩
 obtain ⟨w',hw,rw'⟩:=RelO.some_of (v:=v) (o:=valueAt vs k) (by rw [← l]; exact rel.val k)
 exact ⟨dd.typeIs,wpAny_getItem_of (kV_is ry) dd.mapOf hw ⟨v,H2,I2.tok _,rw',q2⟩⟩
end
end L2
namespace L2
open PySem PySem.Spec PyProof.Rows
def Itv (K:PySem.W.Frag) (a:Addr) (n:Nat):It:=
 ⟨fun i H=>i < n∧∃ xs x,SqL K H a xs∧xs.length=n∧xs[n - 1 - i]? = some x,fun i H x H'=>H'=H∧∀ xs,SqL K H a xs→xs[n - 1 - i]? = some x,fun i _=>i=n⟩
theorem turn_rev {P:Program} {w:World} {K:PySem.W.Frag} {tg:Expr} (a it:Addr) (n:Nat):Turn P w K tg (Itv K a n) [it] it (fun i h=>h.IsRevIter it a ((n:Int) - 1 - (i:Int))) where
 mem:=by simp
 obj:=fun i h st b hb=>by
  have e:b=it:=by simpa using hb
  subst e
  obtain ⟨o,e,c,d⟩:=st
  exact ⟨o,e,fun v z=>by rw [d] at z; cases z⟩
 keep:=fun i h h' st k=>st.at fun o e=>k it (by simp) o e
 item:=by
  intro X hP hw hK hc i pins s σ H E I hf st hg
  subst hP hw hK
  obtain ⟨hi,xs,x,hq,hn,hx⟩:=hg
  obtain ⟨its,rv,p,hz⟩:=I.list hq
  obtain ⟨u,hu,ru⟩:=rv.get hx
  obtain ⟨f0,f1,f2,f3,f4,f5⟩:=hf it (by simp)
  rw [show (n:Int) - 1 - (i:Int)=((n - 1 - i:Nat):Int) by omega] at st
  refine wpAny_pyNext_rev_item st p.isList (x:=u) (by simpa using hu) fun h' st' sb=>?_
  rw [show ((n - 1 - i:Nat):Int) - 1=(n:Int) - 1 - ((i+1:Nat):Int) by omega] at st'
  have I1:Inv X pins σ H { s with heap:=h' }:=I.turned (t':=s.toks) (fun b o hb e=>(sb.2 b hb).trans e) f0 f1 f3 f4 f5
  obtain ⟨o,e,c,d⟩:=id st'
  exact ⟨u,rfl,go_of (s:={ s with heap:=h' }) e c d (by decide) ⟨x,H,I1,ru,⟨rfl,fun ys hy=>by rw [I.list_inj hy hq]; exact hx⟩,st',fun b hb=>(hf b hb).1⟩⟩
 done:=by
  intro X hP hw hK hc i pins s σ H E I hf st hg
  subst hP hw hK
  obtain rfl:i=n:=hg
  obtain ⟨f0,f1,f2,f3,f4,f5⟩:=hf it (by simp)
  rw [show (i:Int) - 1 - (i:Int) = -1 by omega] at st
  exact wpAny_pyNext_rev_end (I.ok.hd hc) st fun h' eb=>⟨rfl,I.turned (t':=s.toks) (fun b o hb e=>eb b o hb e) f0 f1 f3 f4 f5⟩
 self:=fun _ _ _ _ _ st h=>wpAny_pyIter_revIter st h
section
variable {X:Cx} {tg:Expr}
def iRev (K:PySem.W.Frag) (te:TE):TI:=fun σ H R=>te σ H fun x H1=>∃ a xs,x=.ref a∧SqL K H1 a xs∧R (Itv K a xs.length) H1
theorem pi_rev {K:PySem.W.Frag} {e:Expr} {te:TE} {p pos:Pos} (hg:Gl X "reversed") (hm:X.mg "reversed" = none) (he:PE X e te) (hK:X.K=K:=by rfl)
  (h2:starEach [e] X.env=(false,eval e X.env) :: starEach [] X.env:=by rfl):PI X tg (.Call (.Name "reversed" p) [e] [] pos) (iRev K te):=by
 subst hK
 intro pins s σ H R I h
 refine wpAny_Call_Name_kw (ld_blt I hg hm bt_reversed (PyProof.Rows.callWith_type1 (thn (pa_cons he pa_nil h2 pos pins s σ H (fun vs H1=>match vs with | [x]=>∃ a xs,x=.ref a∧SqL X.K H1 a xs∧R (Itv X.K a xs.length) H1 | _=>False) I h) fun us s1 ⟨vs,H1,I1,r1,q1⟩=>?_) h2 rfl))
 obtain ⟨x0,e0,a,xs,e1,hx,q⟩:∃ x0,vs=[x0]∧∃ a xs,x0=.ref a∧SqL X.K H1 a xs∧R (Itv X.K a xs.length) H1:=by
  match vs,q1 with
  | [x0],q1=>exact ⟨x0,rfl,q1⟩
 subst e0 e1
 obtain ⟨u,rfl,ru⟩:=Vals.one r1
 obtain rfl:u=Value.ref a:=ru
 obtain ⟨its,rv,pl,hz⟩:=I1.list hx
 have hl:its.toArray.size=xs.length:=by rw [List.size_toArray]; exact rv.length.symm
 refine call_reversed_list pl.isList ?_
 have st:(s1.heap.push (revObj a ((its.toArray.size:Int) - 1))).IsRevIter s1.heap.objs.size a ((xs.length:Int) - 1 - ((0:Nat):Int)):=by
  rw [hl]
  exact ⟨_,Heap.get?_push_size _ rfl,rfl,by simp [revObj]⟩
 refine wpAny_pyIter_revIter (i:=(xs.length:Int) - 1 - ((0:Nat):Int)) st ⟨s1.heap.objs.size,[s1.heap.objs.size],_,_,H1,rfl,I1.kept (t':=s1.toks) fun b o e=>Heap.get?_push_of_some _ e,turn_rev a _ xs.length,st,fun b hb=>?_,q⟩
 have e:b=s1.heap.objs.size:=by simpa using hb
 subst e
 exact I1.fpOk (Nat.le_refl _) (I1.hok.fresh (Nat.le_refl _))
end
theorem for_rev {K:PySem.W.Frag} {a:Addr} {xs:List V} {g:TG} {tb:TS} {D:Ends} {σ:St} {H:Hp} (Pv:Nat→St→Hp→Prop) (h0:Pv 0 σ H) (hl:∀ i σ H,i≤xs.length→Pv i σ H→SqL K H a xs)
  (hs:∀ i x σ H,i < xs.length→xs[xs.length - 1 - i]? = some x→Pv i σ H→g x σ H fun σ2 H2=>tb { D with nx:=Pv (i+1),ct:=Pv (i+1),bk:=D.nx } σ2 H2) (hd:∀ σ H,Pv xs.length σ H→D.nx σ H) :
  ∃ W:Nat→Nat→St→Hp→Prop,(∃ m,W 0 m σ H)∧∀ i m σ H,W i m σ H→
   ((Itv K a xs.length).stop i H∧D.nx σ H)∨((Itv K a xs.length).go i H∧∃ N:St→Hp→Prop,(∀ σ' H',N σ' H'→∃ m',m' < m∧W (i+1) m' σ' H')∧∀ x H',(Itv K a xs.length).yld i H x H'→g x σ H' fun σ2 H2=>tb { D with nx:=N,ct:=N,bk:=D.nx } σ2 H2):=by
 refine ⟨fun i m σ H=>m=xs.length - i∧i≤xs.length∧Pv i σ H,⟨xs.length,by simp,Nat.zero_le _,h0⟩,?_⟩
 rintro i m σ H ⟨rfl,hi,p⟩
 have q:=hl i σ H hi p
 by_cases hlt:i < xs.length
 ·have hx:xs[xs.length - 1 - i]? = some (xs[xs.length - 1 - i]'(by omega)):=List.getElem?_eq_getElem (by omega)
  refine .inr ⟨⟨hlt,xs,_,q,rfl,hx⟩,Pv (i+1),fun σ' H' p'=>⟨xs.length - (i+1),by omega,rfl,hlt,p'⟩,fun x H' y=>?_⟩
  obtain ⟨e,y⟩:=y
  subst e
  exact hs i x σ _ hlt (y xs q) p
 ·have e:i=xs.length:=by omega
  subst e
  exact .inl ⟨rfl,hd σ H p⟩
end L2
namespace L2
open PySem PySem.Spec PyProof.Rows
section
variable {P:Program} {w:World} {H:Hp} {h h':Heap} {f c a:Addr} {fd:FuncData} {q:Str}
end
section
variable {fs ex:List Addr} {H:Hp} {h h':Heap} {P c f:Addr} {o1 o2:HO} {ps more:Array Value}
def made (H:Hp) (P c f:Addr) (ps:Array Value) (o1 o2:HO):Hp:=upd (upd (upd H P (.tbl ps)) c o1) f o2
end
section
variable {X:Cx} {params:Arguments} {body:Expr} {scope:Scope} {pos:Pos} {c P:Addr} {L:List (Pos × Str)}
end
end L2
namespace L2
open PySem PySem.Spec PyProof.Rows
section
variable {P:Program} {w:World} {A:Around} {E:Value→Shared→Prop} {s:Shared} {r:Addr} {x:Str}
end
section
variable {X:Cx}
end
end L2
namespace L2
open PySem PySem.Spec PyProof.Rows
section
variable {X:Cx} {pins:List (Addr × Obj)} {σ:St} {H:Hp} {s:Shared}
end
section
variable {X:Cx}
end
end L2
namespace L2
open PySem PySem.Spec PyProof.Rows
theorem dep_mem {ds:List Dt} {d:Dt} (h:d∈ds):d.dep < (Dt.tup ds).dep:=by
 have:∀ (l:List Dt),d∈l→d.dep≤(l.map Dt.dep).foldr max 0:=by
  intro l
  induction l with
  | nil=>intro h; cases h
  | cons a l ih=>
   intro h
   rw [List.map_cons,List.foldr_cons]
   rcases List.mem_cons.mp h with e | e
   ·rw [e]; exact Nat.le_max_left _ _
   ·exact Nat.le_trans (ih e) (Nat.le_max_right _ _)
 have h2:=this ds h
 simp only [Dt.dep]
 omega
theorem dep_memL {ds:List Dt} {d:Dt} (h:d∈ds):d.dep < (Dt.lst ds).dep:=by
 have:=dep_mem h
 simp only [Dt.dep] at this ⊢
 exact this
section
variable {P:Program} {w:World} {H:Hp} {s:Shared}
theorem tup_here (ok:HOk P w H s.heap) {a:Addr} {xs:List V} (h:H a=some (.tup xs)):∃ its:List Value,Vals xs its∧s.heap.IsTuple a its.toArray:=by
 obtain ⟨_,its,r,t⟩:=ok a _ h
 exact ⟨its,r,t⟩
theorem lst_here (ok:HOk P w H s.heap) {a:Addr} {xs:List V} (h:H a=some (.lst xs)):∃ its:List Value,Vals xs its∧s.heap.IsList a its.toArray:=by
 obtain ⟨_,its,n,r,t⟩:=ok a _ h
 exact ⟨its,r,⟨_,t,rfl,n,rfl⟩⟩
theorem all_yes (n:Nat):((List.range n).all fun _=>true)=true:=by
 rw [List.all_eq_true]
 intros
 rfl
theorem eqAt_den (ok:HOk P w H s.heap):∀ (n:Nat) (d:Dt) (A:Around) (x y:V) (u v:Value),d.dep≤n→A.units+n < cLine→Den H x d→Den H y d→RelV x u→RelV y v→SeqAt.EqAt A s u v true:=by
 intro n
 induction n with
 | zero=>
  intro d A x y u v hd hu hx hy rx ry
  cases hx with
  | non=>cases hy; cases rx; cases ry; exact SeqAt.EqAt.same _
  | bl b=>cases hy; cases rx; cases ry; exact SeqAt.EqAt.same _
  | int i=>
   cases hy
   obtain ⟨t,rfl⟩:=rx
   obtain ⟨t',rfl⟩:=ry
   have:=SeqAt.EqAt.int_int (A:=A) (s:=s) i t i t'
   rwa [beq_self_eq_true] at this
  | str z=>
   cases hy
   obtain ⟨t,rfl⟩:=rx
   obtain ⟨t',rfl⟩:=ry
   have:=SeqAt.EqAt.str_str (A:=A) (s:=s) z t z t'
   rwa [beq_self_eq_true] at this
  | lst=>simp [Dt.dep] at hd
  | tup=>simp [Dt.dep] at hd
 | succ n ih=>
  intro d A x y u v hd hu hx hy rx ry
  cases hx with
  | non=>cases hy; cases rx; cases ry; exact SeqAt.EqAt.same _
  | bl b=>cases hy; cases rx; cases ry; exact SeqAt.EqAt.same _
  | int i=>
   cases hy
   obtain ⟨t,rfl⟩:=rx
   obtain ⟨t',rfl⟩:=ry
   have:=SeqAt.EqAt.int_int (A:=A) (s:=s) i t i t'
   rwa [beq_self_eq_true] at this
  | str z=>
   cases hy
   obtain ⟨t,rfl⟩:=rx
   obtain ⟨t',rfl⟩:=ry
   have:=SeqAt.EqAt.str_str (A:=A) (s:=s) z t z t'
   rwa [beq_self_eq_true] at this
  | @lst a xs ds ha hz hl hk=>
   cases hy with
   | @lst b ys _ hb hz' hl' hk'=>
    cases rx
    cases ry
    by_cases e:a=b
    ·subst e; exact SeqAt.EqAt.same _
    obtain ⟨i1,r1,p1⟩:=lst_here ok ha
    obtain ⟨i2,r2,p2⟩:=lst_here ok hb
    have sz1:i1.toArray.size=ds.length:=by rw [List.size_toArray,← hl]; exact r1.length.symm
    have sz2:i2.toArray.size=ds.length:=by rw [List.size_toArray,← hl']; exact r2.length.symm
    have:=SeqAt.RcAt.lists (A:=A) (e:=fun _=>true) p1 p2 (by rw [sz1,sz2]) (by omega) fun j h1 h2=>?_
    ·rw [all_yes] at this
     exact SeqAt.EqAt.of_refs e this
    have hj:j < ds.length:=by omega
    have hjd:ds[j]? = some ds[j]:=List.getElem?_eq_getElem hj
    have hjx:xs[j]? = some (xs[j]'(by omega)):=List.getElem?_eq_getElem (by omega)
    have hjy:ys[j]? = some (ys[j]'(by omega)):=List.getElem?_eq_getElem (by omega)
    obtain ⟨u1,e1,q1⟩:=r1.get hjx
    obtain ⟨u2,e2,q2⟩:=r2.get hjy
    have g1:i1.toArray[j]=u1:=by
     have:i1[j]? = some i1.toArray[j]:=by simp at h1 ⊢
     rw [e1] at this
     exact (Option.some.inj this).symm
    have g2:i2.toArray[j]=u2:=by
     have:i2[j]? = some i2.toArray[j]:=by simp at h2 ⊢
     rw [e2] at this
     exact (Option.some.inj this).symm
    rw [g1,g2]
    have hdm:=dep_memL (List.getElem_mem hj)
    exact ih ds[j] A.in1 _ _ u1 u2 (by omega) (by show A.units+1+n < cLine; omega) (hk j _ _ hjx hjd) (hk' j _ _ hjy hjd) q1 q2
  | @tup a xs ds ha hz hl hk=>
   cases hy with
   | @tup b ys _ hb hz' hl' hk'=>
    cases rx
    cases ry
    by_cases e:a=b
    ·subst e; exact SeqAt.EqAt.same _
    obtain ⟨i1,r1,p1⟩:=tup_here ok ha
    obtain ⟨i2,r2,p2⟩:=tup_here ok hb
    have sz1:i1.toArray.size=ds.length:=by rw [List.size_toArray,← hl]; exact r1.length.symm
    have sz2:i2.toArray.size=ds.length:=by rw [List.size_toArray,← hl']; exact r2.length.symm
    have:=SeqAt.RcAt.tuples (A:=A) (e:=fun _=>true) p1 p2 (by omega) fun j h1 h2=>?_
    ·rw [all_yes,sz1,sz2,beq_self_eq_true,Bool.and_self] at this
     exact SeqAt.EqAt.of_refs e this
    have hj:j < ds.length:=by omega
    have hjd:ds[j]? = some ds[j]:=List.getElem?_eq_getElem hj
    have hjx:xs[j]? = some (xs[j]'(by omega)):=List.getElem?_eq_getElem (by omega)
    have hjy:ys[j]? = some (ys[j]'(by omega)):=List.getElem?_eq_getElem (by omega)
    obtain ⟨u1,e1,q1⟩:=r1.get hjx
    obtain ⟨u2,e2,q2⟩:=r2.get hjy
    have g1:i1.toArray[j]=u1:=by
     have:i1[j]? = some i1.toArray[j]:=by simp at h1 ⊢
     rw [e1] at this
     exact (Option.some.inj this).symm
    have g2:i2.toArray[j]=u2:=by
     have:i2[j]? = some i2.toArray[j]:=by simp at h2 ⊢
     rw [e2] at this
     exact (Option.some.inj this).symm
    rw [g1,g2]
    have hdm:=dep_mem (List.getElem_mem hj)
    exact ih ds[j] A.in1 _ _ u1 u2 (by omega) (by show A.units+1+n < cLine; omega) (hk j _ _ hjx hjd) (hk' j _ _ hjy hjd) q1 q2
end
section
variable {X:Cx}
inductive rEqDI (neg:Bool) (x:V) (y:V) (H:Hp) (Q:VK):Prop
 | mk (ds:_) (h1:(Dt.tup ds).dep≤150) (h2:Den H x (.tup ds)) (h3:Den H y (.tup ds)) (h4:Q (.bl (!neg)) H):rEqDI neg x y H Q
def rEqD (neg:Bool):R2:=fun x y H Q=>rEqDI neg x y H Q
theorem pairs_den {pins:List (Addr × Obj)} {s:Shared} {σ:St} {H:Hp} {x y:V} {u v:Value} {ds:List Dt} (hu:X.A.units+160 < cLine) (I:Inv X pins σ H s) (hd:(Dt.tup ds).dep≤150) (hx:Den H x (.tup ds)) (hy:Den H y (.tup ds)) (rx:RelV x u) (ry:RelV y v) :
  ∃ (a b:Addr) (i1 i2:List Value),u=.ref a∧v=.ref b∧s.heap.IsTuple a i1.toArray∧s.heap.IsTuple b i2.toArray∧i1.toArray.size=ds.length∧i2.toArray.size=ds.length∧∀ j (h1:j < i1.toArray.size) (h2:j < i2.toArray.size),SeqAt.EqAt X.A.in1 s i1.toArray[j] i2.toArray[j] true:=by
 cases hx with
 | @tup a xs _ ha hz hl hk=>
  cases hy with
  | @tup b ys _ hb hz' hl' hk'=>
   obtain ⟨i1,r1,p1⟩:=tup_here I.hok ha
   obtain ⟨i2,r2,p2⟩:=tup_here I.hok hb
   have sz1:i1.toArray.size=ds.length:=by rw [List.size_toArray,← hl]; exact r1.length.symm
   have sz2:i2.toArray.size=ds.length:=by rw [List.size_toArray,← hl']; exact r2.length.symm
   refine ⟨a,b,i1,i2,rx,ry,p1,p2,sz1,sz2,fun j h1 h2=>?_⟩
   have hj:j < ds.length:=by omega
   have hjd:ds[j]? = some ds[j]:=List.getElem?_eq_getElem hj
   have hjx:xs[j]? = some (xs[j]'(by omega)):=List.getElem?_eq_getElem (by omega)
   have hjy:ys[j]? = some (ys[j]'(by omega)):=List.getElem?_eq_getElem (by omega)
   obtain ⟨u1,e1,q1⟩:=r1.get hjx
   obtain ⟨u2,e2,q2⟩:=r2.get hjy
   have g1:i1.toArray[j]=u1:=by
    have:i1[j]? = some i1.toArray[j]:=by simp at h1 ⊢
    rw [e1] at this
    exact (Option.some.inj this).symm
   have g2:i2.toArray[j]=u2:=by
    have:i2[j]? = some i2.toArray[j]:=by simp at h2 ⊢
    rw [e2] at this
    exact (Option.some.inj this).symm
   rw [g1,g2]
   have hdm:=dep_mem (List.getElem_mem hj)
   exact eqAt_den I.hok 150 ds[j] X.A.in1 _ _ u1 u2 (by omega) (by show X.A.units+1+150 < cLine; omega) (hk j _ _ hjx hjd) (hk' j _ _ hjy hjd) q1 q2
theorem op_eqD (hu:X.A.units+160 < cLine):OpR X (compareOp .Eq) (rEqD false):=by
 intro pins s σ H x y v u Q I rx ry h
 obtain ⟨ds,hd,hx,hy,q⟩:=h
 obtain ⟨a,b,i1,i2,rfl,rfl,p1,p2,s1,s2,he⟩:=pairs_den hu I hd hx hy rx ry
 refine SeqAt.eq_tupleAt p1 p2 (by omega) (e:=fun _=>true) he ⟨.bl true,H,I,?_,q⟩
 rw [all_yes,s1,s2,beq_self_eq_true]
 rfl
theorem hd_of {A:Around} {k:Nat} (hr:Room k A):A.units+160 < cLine:=by have:=hr.un; omega
def tDGetM (P:Program) (w:World) (K:PySem.W.Frag) (td ty:TE):TE:=fun σ H Q=>td σ H fun x H1=>∃ a kvs,x=.ref a∧(a==sysModules)=false∧DKn P w K a kvs∧ty σ H1 fun y H2=>∃ k,y=kV k∧Q ((valV kvs k).getD .non) H2
theorem pe_dgetM {K:PySem.W.Frag} {o e:Expr} {td ty:TE} {apos cpos:Pos} (ho:PE X o td) (he:PE X e ty) (m:M1 X o "get" apos e cpos) (hK:X.K=K:=by rfl):PE X (.Call (.Attribute o "get" apos) [e] [] cpos) (tDGetM X.prog X.w K td ty):=by
 subst hK
 intro pins s σ H Q I h
 refine wpAny_Call_method m.base m.few m.line PySem.F.plainAttrs_dict PySem.F.slot_dict_get PySem.F.type_dict_get (thn (ho pins s σ H _ I h) fun u s1 ⟨x,H1,I1,rx,a,kvs,ex,hs,⟨ob,vs,hk,hd,rel⟩,q1⟩=>?_)
 subst ex
 obtain rfl:u=Value.ref a:=rx
 have dd:s1.heap.DictOf (mixKind X.prog X.w) a vs:=Heap.dictOf_iff.mpr ⟨ob,I1.kIn a ob hk,hd⟩
 refine ⟨dd.typeIs,fun b q=>?_,?_⟩
 ·cases q
  obtain ⟨ob2,_,_,h1,h2,_⟩:=dd
  exact ⟨ob2,h1,h2.2.1⟩
 rw [m.trees]
 refine Calls.callWith_builtin rfl (Calls.evalArgs_plain (Calls.spliced_cons (thn (he pins s1 σ H1 _ I1 q1) fun iv s2 ⟨y,H2,I2,ry,k,ey,q2⟩=>Calls.spliced_nil ?_)))
 subst ey
 have dd2:s2.heap.DictOf (mixKind X.prog X.w) a vs:=Heap.dictOf_iff.mpr ⟨ob,I2.kIn a ob hk,hd⟩
 exact call_meetsIn PySem.F.slot_dict_get dd2.typeIs PySem.F.entry_dict_get (PySem.F.args_dict_get_2 _ _) (meets_dict_get (mixKind X.prog X.w) a (kV_is ry) hs) ⟨_,dd2.mapOf,⟨_,H2,I2.tok _,(rel.val k).getD (d:=.non) (d':=.none) rfl,q2⟩⟩
end
end L2
namespace L2
open PySem PySem.Spec PyProof.Rows
section
variable {X:Cx} {tg:Expr}
end
end L2
namespace L2
open PySem PySem.Spec PyProof.Rows
section
variable {P:Program} {w:World} {A:Around} {E:Value→Shared→Prop} {s:Shared}
theorem drawT_item {it t:Addr} {i:Nat} {us:Array Value} {x:Value} {Q:Value→Shared→Prop} (hi:s.heap.IsTupleIter it t i) (ht:s.heap.IsTuple t us) (hx:us[i]? = some x)
  (q:∀ h',h'.IsTupleIter it t (i+1)→Heap.SameBut it s.heap h'→Q x { s with heap:=h' }):wpAny (model P w) A (Builtin.SmallTypes.nextOf (.ref it)) Q E s:=by
 obtain ⟨o,e0,ec,ed⟩:=id hi
 obtain ⟨ot,e1,_,n,e2⟩:=ht
 unfold Builtin.SmallTypes.nextOf
 refine wpAny_bind (wpAny_callSpecial?_slot (name:=Str.ofString "__next__") hi.typeIs F.slot_tuple_iterator_next (wpAny_call_entry F.slot_tuple_iterator_next hi.typeIs F.entry_tuple_iterator_next ?_ (F.args_tuple_iterator_next_1 _)))
 refine wpAny_bind (m:=field (.ref it) 0) (wpAny_field e0 ed (x:=.ref t) rfl ?_)
 show wpAny _ _ (ite ((Value.ref t==Value.none)=true) _ _) _ _ s
 refine (if_neg (show ¬ (Value.ref t==Value.none)=true from Bool.false_ne_true))▸?_
 refine wpAny_bind (m:=field (.ref it) 1) (wpAny_field e0 ed (x:=.int i 0) rfl ?_)
 refine wpAny_bind (m:=seqItems? (.ref t)) (wpAny_seqItems e1 e2 ?_)
 simp only [Int.toNat_natCast,hx]
 refine wpAny_bind (wpAny_setField e0 ed (by simp) (wpAny_pure ⟨x,rfl,wpAny_pure (q _ ⟨_,Heap.get?_update_self _ e0 (Obj.isFreed_of_fields (Obj.data_mapFields ed _)),(Obj.cls_mapFields ..).trans ec,?_⟩ (Heap.SameBut.update ..))⟩))
 rw [Obj.data_mapFields ed]
 simp [rawInt]
theorem drawT_end {it t:Addr} {i:Nat} {us:Array Value} {Q:Value→Shared→Prop} (hh:A.handled=none) (hi:s.heap.IsTupleIter it t i) (ht:s.heap.IsTuple t us) (hx:us[i]? = none)
  (q:∀ h' e,Heap.ExtBut it s.heap h'→(∃ o,h'.get? e=some o∧o.cls=.type "StopIteration")→E (.ref e) { s with heap:=h' }):wpAny (model P w) A (Builtin.SmallTypes.nextOf (.ref it)) Q E s:=by
 obtain ⟨o,e0,ec,ed⟩:=id hi
 obtain ⟨ot,e1,_,n,e2⟩:=ht
 unfold Builtin.SmallTypes.nextOf
 refine wpAny_bind (wpAny_callSpecial?_slot (name:=Str.ofString "__next__") hi.typeIs F.slot_tuple_iterator_next (wpAny_call_entry F.slot_tuple_iterator_next hi.typeIs F.entry_tuple_iterator_next ?_ (F.args_tuple_iterator_next_1 _)))
 refine wpAny_bind (m:=field (.ref it) 0) (wpAny_field e0 ed (x:=.ref t) rfl ?_)
 show wpAny _ _ (ite ((Value.ref t==Value.none)=true) _ _) _ _ s
 refine (if_neg (show ¬ (Value.ref t==Value.none)=true from Bool.false_ne_true))▸?_
 refine wpAny_bind (m:=field (.ref it) 1) (wpAny_field e0 ed (x:=.int i 0) rfl ?_)
 refine wpAny_bind (m:=seqItems? (.ref t)) (wpAny_seqItems e1 e2 ?_)
 simp only [Int.toNat_natCast,hx]
 refine wpAny_bind (wpAny_rule (wpAny_bind (wpAny_setField e0 ed (by simp) (wpAny_bind (m:=newExc (.type "StopIteration") []) ?_))))
 simp only [newExc,newTuple,raiseNew]
 refine wpAny_bind (wpAny_newObj_type (wpAny_bind (m:=firstArgMember _ _) (wpAny_of_eq (a:=Value.none) (by first | rfl | (simp only [firstArgMember]; rfl)) (wpAny_newObj_type ?_ (by size_fits)))) (by size_fits))
 refine wpAny_bind (wpAny_handled ?_)
 first | rw [show A.in1.handled=none from hh] | rw [hh]
 exact wpAny_bind (wpAny_pure (wpAny_throw (q _ _ (((Heap.SameBut.update ..).extBut.push _).push _) ⟨_,Heap.get?_push_size _ rfl,rfl⟩)))
theorem drawsT (hh:A.handled=none) (it t:Addr) (hne:t≠it) (us:Array Value):Draws P w A it [it,t] us.size (fun i v=>us[i]? = some v) (fun i h=>h.IsTupleIter it t i∧h.IsTuple t us) where
 live:=fun _ _ ⟨⟨o,e,_⟩,_⟩=>⟨o,e⟩
 frame:=fun _ _ _ ⟨a,b⟩ k=>⟨a.at fun o e=>k it (by simp) o e,b.at fun o e=>k t (by simp) o e⟩
 item:=fun i s Q E hi st q=>drawT_item st.1 st.2 (x:=us[i]) (by simp [hi]) fun h' a b=>q _ h' s.toks (by simp [hi]) ⟨a,st.2.extBut b.extBut hne⟩ b
 done:=fun s Q E st q=>drawT_end hh st.1 st.2 (by simp) q
open AutoSeq1 (wpAny_loadPart') in
theorem enumNewT (t:Addr) (us:Array Value) (n:Nat) (dx:Option Addr) (sl:Array (Option Value)) :
  Meets (Builtin.«enumerate.__new__» ⟨[.type "enumerate",.ref t],[]⟩) (fun _ R s=>s.heap.get? t=some { cls:=.type "tuple",dict:=dx,data:=.seq us n,slots:=sl }∧
   R (.ok (.ret (.ref (s.heap.push { cls:=.type "tuple_iterator",data:=.fields #[.ref t,.int 0 0] }).objs.size))) { s with heap:=(s.heap.push { cls:=.type "tuple_iterator",data:=.fields #[.ref t,.int 0 0] }).push { cls:=.type "enumerate",data:=.fields #[.none,.bool false,.ref s.heap.objs.size,rawInt 0,.none,.none] } }):=
 .of_wp fun prog w A R s h=>by
  obtain ⟨hp,g,d,tk,os⟩:=s
  obtain ⟨ht,q⟩:=h
  have hsub:=sub_enumerate
  have hT:Heap.IsTuple (Shared.heap ⟨hp,g,d,tk,os⟩) t us:=⟨_,ht,rfl,n,rfl⟩
  wp_walk using wpAny_loadPart' ht
  refine wpAny_stack_any fun st=>wpAny_pure ?_
  split
  ·rename_i c _ _ _ _ _
   cases (c==Value.type "enumerate") <;> (wp_walk using wpAny_loadPart' ht,wpAny_pyIter_tuple hT; exact ⟨_,rfl,q⟩)
  ·wp_walk using wpAny_loadPart' ht,wpAny_pyIter_tuple hT
   exact ⟨_,rfl,q⟩
theorem call_enumT {t:Addr} {us:Array Value} {Q:Value→Shared→Prop} (hT:s.heap.IsTuple t us)
  (q:∀ h',IsEnum h' (s.heap.objs.size+1) s.heap.objs.size 0 .none→h'.IsTupleIter s.heap.objs.size t 0→h'.objs.size=s.heap.objs.size+2→(∀ b o,s.heap.get? b=some o→h'.get? b=some o)→Q (.ref (s.heap.objs.size+1)) { s with heap:=h' }) :
  wpAny (model P w) A (call (.type "enumerate") [.ref t]) Q E s:=by
 obtain ⟨⟨c,dx,dt,sl⟩,ht,ec,n,ed⟩:=hT
 obtain rfl:c=.type "tuple":=ec
 obtain rfl:dt=.seq us n:=ed
 refine callType_new F.called_enumerate (by decide) (F.typeCall_enumerate_1 _) (F.newCall_enumerate_1 _) (fun obj=>F.args_object_init_2 obj _) F.entry_enumerate_new (enumNewT t us n dx sl) ⟨ht,?_⟩
 have z:(s.heap.push { cls:=.type "tuple_iterator",data:=.fields #[.ref t,.int 0 0] }).objs.size=s.heap.objs.size+1:=Heap.size_push ..
 show _∧_
 have en:=Heap.get?_push_size (s.heap.push { cls:=.type "tuple_iterator",data:=.fields #[.ref t,.int 0 0] }) (o:={ cls:=.type "enumerate",data:=.fields #[.none,.bool false,.ref s.heap.objs.size,rawInt 0,.none,.none] }) rfl
 rw [z] at en ⊢
 exact ⟨⟨_,en,rfl⟩,q _ en ⟨_,Heap.get?_push_of_some _ (Heap.get?_push_size _ rfl),rfl,rfl⟩ (by rw [Heap.size_push,z]) fun b o x=>Heap.get?_push_of_some _ (Heap.get?_push_of_some _ x)⟩
end
theorem Inv.turnedL {X:Cx} {pins:List (Addr × Obj)} {σ:St} {H:Hp} {s:Shared} {h':Heap} {t':Nat} {fp:List Addr} (I:Inv X pins σ H s) (k:∀ b o,b∉fp→s.heap.get? b=some o→h'.get? b=some o) (hf:∀ b∈fp,FpOk X pins H b) :
  Inv X pins σ H { s with heap:=h',toks:=t' }:=by
 have nit:∀ b u,H b=some u→b∉fp:=fun b u e z=>by rw [(hf b z).1] at e; cases e
 refine I.step (g':=s.gens) (d':=s.drawn) (ch:=fp) (fun b hb=>?_) (fun b o _ _ hc e _=>k b o hc e) (fun b o _ _ hc e _=>⟨o.slots,k b o hc e⟩) (fun _ _ _ _ n=>n) (fun b o hc e=>⟨o,k b o hc e⟩) (fun _ _ e=>e) (fun _ _ _ e=>e) (fun b ps e=>⟨#[],by rw [e]; simp⟩) (fun m hm=>?_) (fun b u e=>?_) I.bare
 ·obtain ⟨_,f1,_,f3,f4,f5⟩:=hf b hb
  exact ⟨f3,f1,f4,f5⟩
 ·obtain ⟨o,es,ep,ho,r⟩:=hm
  exact ⟨o,es,ep,k _ o (fun z=>(hf _ z).2.1 rfl) ho,r⟩
 ·refine (I.hok b u e).stay (fun c v hc q=>k c v (fun y=>?_) q) (fun _ q=>q) fun _ _ q=>q
  rcases hc with z | z
  ·rw [z] at y
   exact nit b u e y
  ·exact nit c _ z y
def ItE (Sq:Hp→List V→Prop):It:=
 ⟨fun i H=>∃ xs x,Sq H xs∧xs[i]? = some x,fun i H x H'=>∃ p y,x=.ref p∧H p=none∧H'=upd H p (.tup [.int i,y])∧∀ xs,Sq H xs→xs[i]? = some y,fun i H=>∃ xs,Sq H xs∧xs.length=i⟩
theorem enum_step {X:Cx} {pins:List (Addr × Obj)} {σ:St} {H:Hp} {s:Shared} {h1 h2:Heap} {e it:Addr} {i:Nat} {tk t':Nat} {u:Value} {y:V} (I:Inv X pins σ H s) (hf:∀ b∈[e,it],FpOk X pins H b) (ru:RelV y u)
  (ht:h1.get? s.heap.objs.size=some { cls:=.type "tuple",data:=.seq #[.int i tk,u] }) (k:∀ b o,b≠e→b≠it→s.heap.get? b=some o→h1.get? b=some o) (sb:Heap.SameBut e h1 h2) (hel:e < s.heap.objs.size) (hil:it < s.heap.objs.size) :
  Inv X pins σ (upd H s.heap.objs.size (.tup [.int i,y])) { s with heap:=h2,toks:=t' }∧∀ b∈[e,it],upd H s.heap.objs.size (.tup [.int i,y]) b=none:=by
 have hn:∀ b∈[e,it],upd H s.heap.objs.size (.tup [.int i,y]) b=none:=fun b hb=>by
  have hb':b=e∨b=it:=by simpa using hb
  have hlt:b < s.heap.objs.size:=by
   rcases hb' with z | z
   ·rw [z]; exact hel
   ·rw [z]; exact hil
  rw [upd_ne (Nat.ne_of_lt hlt)]
  exact (hf b hb).1
 have I1:Inv X pins σ (upd H s.heap.objs.size (.tup [.int i,y])) { s with heap:=s.heap.push { cls:=.type "tuple",data:=.seq #[.int i tk,u] },toks:=s.toks }:=
  I.laid (fun b o q=>Heap.get?_push_of_some _ q) (Nat.le_refl _) ⟨(by show 2≤sizeLine; decide),[.int i tk,u],.cons ⟨tk,rfl⟩ (.cons ru .nil),⟨_,Heap.get?_push_size _ rfl,rfl,_,rfl⟩⟩
 have I2:=I1.turnedL (fp:=[e,it]) (h':=h2) (t':=t') (fun b o hb q=>?_) (fun b hb=>⟨hn b hb,(hf b hb).2⟩)
 ·exact ⟨I2,hn⟩
 have hb1:b≠e:=fun z=>hb (by simp [z])
 have hb2:b≠it:=fun z=>hb (by simp [z])
 refine (sb.2 b hb1).trans ?_
 rcases Heap.get?_push_cases q with ⟨z1,z2⟩ | z
 ·rw [z1,z2]
  exact ht
 ·exact k b o hb1 hb2 z
theorem turn_enumL {P:Program} {w:World} {K:PySem.W.Frag} {es:List Expr} {n:Nat} {pos:Pos} (a e it:Addr) (hei:e≠it) :
  Turn P w K (.Tuple es n pos) (ItE fun H xs=>SqL K H a xs) [e,it] e (fun i h=>(∃ old,IsEnum h e it i old)∧h.IsListIter it a i) where
 mem:=by simp
 obj:=fun i h st b hb=>by
  obtain ⟨⟨old,he⟩,oi,e1,c1,d1⟩:=st
  have hb':b=e∨b=it:=by simpa using hb
  rcases hb' with z | z
  ·subst z
   exact ⟨_,he,fun v z=>by cases z⟩
  ·subst z
   exact ⟨oi,e1,fun v z=>by rw [d1] at z; cases z⟩
 keep:=fun i h h' st k=>⟨let ⟨old,he⟩:=st.1; ⟨old,k e (by simp) _ he⟩,st.2.at fun o q=>k it (by simp) o q⟩
 item:=by
  intro X hP hw hK hc i pins s σ H E I hf st hg
  subst hP hw hK
  obtain ⟨xs,x,hq,hx⟩:=hg
  obtain ⟨its,rv,p,hz⟩:=I.list hq
  obtain ⟨u,hu,ru⟩:=rv.get hx
  obtain ⟨⟨old,he⟩,hit⟩:=st
  have hel:=Heap.lt_size he
  have hil:it < s.heap.objs.size:=by obtain ⟨o,q,_⟩:=id hit; exact Heap.lt_size q
  refine wpAny_pyNext_enum_item he hit p.isList (x:=u) (by simpa using hu) hei fun h1 heo hit1 ht1 hz1 hk1=>⟨_,rfl,?_⟩
  refine wpAny_letOwnedTupleGo_enum heo fun h2 he2 sb=>?_
  obtain ⟨I2,hn⟩:=enum_step (t':=s.toks+1) I hf ru ht1 hk1 sb hel hil
  exact ⟨.ref s.heap.objs.size,_,I2,rfl,⟨_,x,rfl,I.hok.fresh (Nat.le_refl _),rfl,fun ys hy=>by rw [I.list_inj hy hq]; exact hx⟩,⟨⟨_,by simpa using he2⟩,hit1.at fun o q=>(sb.2 it (Ne.symm hei)).trans q⟩,hn⟩
 done:=by
  intro X hP hw hK hc i pins s σ H E I hf st hg
  subst hP hw hK
  obtain ⟨xs,hq,hx⟩:=hg
  obtain ⟨its,rv,p,hz⟩:=I.list hq
  have hl:=rv.length
  obtain ⟨⟨old,he⟩,hit⟩:=st
  obtain ⟨f0,f1,f2,f3,f4,f5⟩:=hf it (by simp)
  exact wpAny_pyNext_enum_end (I.ok.hd hc) he hit p.isList (by simp; omega) fun h' eb=>⟨rfl,I.turned (t':=s.toks) (fun b o hb q=>eb b o hb q) f0 f1 f3 f4 f5⟩
 self:=fun _ _ _ _ _ st h=>let ⟨_,he⟩:=st.1; wpAny_pyIter_enum he h
theorem turn_enumT {P:Program} {w:World} {K:PySem.W.Frag} {es:List Expr} {n:Nat} {pos:Pos} (a e it:Addr) (hei:e≠it) :
  Turn P w K (.Tuple es n pos) (ItE fun H xs=>SqT K H a xs) [e,it] e (fun i h=>(∃ old,IsEnum h e it i old)∧h.IsTupleIter it a i) where
 mem:=by simp
 obj:=fun i h st b hb=>by
  obtain ⟨⟨old,he⟩,oi,e1,c1,d1⟩:=st
  have hb':b=e∨b=it:=by simpa using hb
  rcases hb' with z | z
  ·subst z
   exact ⟨_,he,fun v z=>by cases z⟩
  ·subst z
   exact ⟨oi,e1,fun v z=>by rw [d1] at z; cases z⟩
 keep:=fun i h h' st k=>⟨let ⟨old,he⟩:=st.1; ⟨old,k e (by simp) _ he⟩,st.2.at fun o q=>k it (by simp) o q⟩
 item:=by
  intro X hP hw hK hc i pins s σ H E I hf st hg
  subst hP hw hK
  obtain ⟨xs,x,hq,hx⟩:=hg
  obtain ⟨its,rv,p,hz⟩:=I.tuple hq
  have hl:=rv.length
  have hlt:i < its.toArray.size:=by
   have:=(List.getElem?_eq_some_iff.mp hx).1
   simp
   omega
  obtain ⟨⟨old,he⟩,hit⟩:=st
  have hel:=Heap.lt_size he
  have hT:s.heap.IsTuple a its.toArray:=p
  have hil:it < s.heap.objs.size:=by obtain ⟨o,q,_⟩:=id hit; exact Heap.lt_size q
  have nat:a≠it:=fun z=>by
   obtain ⟨o,q,c,_⟩:=id hit
   obtain ⟨o2,q2,c2,_⟩:=id hT
   rw [z,q] at q2
   cases q2
   rw [c] at c2
   injection c2 with c2
   exact absurd c2 (by decide)
  have nae:a≠e:=fun z=>by
   obtain ⟨o2,q2,c2,_⟩:=id hT
   rw [z,he] at q2
   cases q2
   injection c2 with c2
   exact absurd c2 (by decide)
  have hef:e∉[it,a]:=by simp [hei,Ne.symm nae]
  refine wpAny_pyNext_enum_itemD (drawsT (A:=X.A.in1) (I.ok.hd hc) it a nat its.toArray) he ⟨hit,hT⟩ hlt hei hef fun u h1 tk hu heo hit1 ht1 hz1 hk1=>⟨_,rfl,?_⟩
  refine wpAny_letOwnedTupleGo_enum heo fun h2 he2 sb=>?_
  obtain ⟨u',hu',ru⟩:=rv.get hx
  have eu:u=u':=by
   have h3:its[i]? = some u:=by simpa using hu
   rw [hu'] at h3
   exact (Option.some.inj h3).symm
  subst eu
  obtain ⟨I2,hn⟩:=enum_step (t':=tk+1) I hf ru ht1 hk1 sb hel hil
  exact ⟨.ref s.heap.objs.size,_,I2,rfl,⟨_,x,rfl,I.hok.fresh (Nat.le_refl _),rfl,fun ys hy=>by rw [I.tuple_inj hy hq]; exact hx⟩,⟨⟨_,by simpa using he2⟩,hit1.1.at fun o q=>(sb.2 it (Ne.symm hei)).trans q⟩,hn⟩
 done:=by
  intro X hP hw hK hc i pins s σ H E I hf st hg
  subst hP hw hK
  obtain ⟨xs,hq,hx⟩:=hg
  obtain ⟨its,rv,p,hz⟩:=I.tuple hq
  have hl:=rv.length
  obtain ⟨⟨old,he⟩,hit⟩:=st
  have hT:s.heap.IsTuple a its.toArray:=p
  have nat:a≠it:=fun z=>by
   obtain ⟨o,q,c,_⟩:=id hit
   obtain ⟨o2,q2,c2,_⟩:=id hT
   rw [z,q] at q2
   cases q2
   rw [c] at c2
   injection c2 with c2
   exact absurd c2 (by decide)
  obtain ⟨f0,f1,f2,f3,f4,f5⟩:=hf it (by simp)
  have ei:i=its.toArray.size:=by simp; omega
  subst ei
  exact wpAny_pyNext_enum_endD (drawsT (A:=X.A.in1) (I.ok.hd hc) it a nat its.toArray) he ⟨hit,hT⟩ fun h' eb=>⟨rfl,I.turned (t':=s.toks) (fun b o hb q=>eb b o hb q) f0 f1 f3 f4 f5⟩
 self:=fun _ _ _ _ _ st h=>let ⟨_,he⟩:=st.1; wpAny_pyIter_enum he h
section
variable {X:Cx} {es:List Expr} {n:Nat} {tp:Pos}
def iEnum (K:PySem.W.Frag) (te:TE):TI:=fun σ H R=>te σ H fun x H1=>∃ a xs,x=.ref a∧((SqL K H1 a xs∧R (ItE fun H xs=>SqL K H a xs) H1)∨(SqT K H1 a xs∧R (ItE fun H xs=>SqT K H a xs) H1))
theorem pi_enum {K:PySem.W.Frag} {e:Expr} {te:TE} {p pos:Pos} (hg:Gl X "enumerate") (hm:X.mg "enumerate" = none) (he:PE X e te) (hK:X.K=K:=by rfl)
  (h2:starEach [e] X.env=(false,eval e X.env) :: starEach [] X.env:=by rfl):PI X (.Tuple es n tp) (.Call (.Name "enumerate" p) [e] [] pos) (iEnum K te):=by
 subst hK
 intro pins s σ H R I h
 refine wpAny_Call_Name_kw (ld_blt I hg hm bt_enumerate (PyProof.Rows.callWith_type1 (thn (pa_cons he pa_nil h2 pos pins s σ H (fun vs H1=>match vs with | [x]=>∃ a xs,x=.ref a∧((SqL X.K H1 a xs∧R (ItE fun H xs=>SqL X.K H a xs) H1)∨(SqT X.K H1 a xs∧R (ItE fun H xs=>SqT X.K H a xs) H1)) | _=>False) I h) fun us s1 ⟨vs,H1,I1,r1,q1⟩=>?_) h2 rfl))
 obtain ⟨x0,e0,a,xs,e1,q⟩:∃ x0,vs=[x0]∧∃ a xs,x0=.ref a∧((SqL X.K H1 a xs∧R (ItE fun H xs=>SqL X.K H a xs) H1)∨(SqT X.K H1 a xs∧R (ItE fun H xs=>SqT X.K H a xs) H1)):=by
  match vs,q1 with
  | [x0],q1=>exact ⟨x0,rfl,q1⟩
 subst e0 e1
 obtain ⟨u,rfl,ru⟩:=Vals.one r1
 obtain rfl:u=Value.ref a:=ru
 have fp:∀ b∈[s1.heap.objs.size+1,s1.heap.objs.size],FpOk X pins H1 b:=fun b hb=>by
  have hb':b=s1.heap.objs.size+1∨b=s1.heap.objs.size:=by simpa using hb
  rcases hb' with z | z
  ·rw [z]; exact I1.fpOk (Nat.le_succ _) (I1.hok.fresh (Nat.le_succ _))
  ·rw [z]; exact I1.fpOk (Nat.le_refl _) (I1.hok.fresh (Nat.le_refl _))
 rcases q with ⟨hx,q⟩ | ⟨hx,q⟩
 ·obtain ⟨its,rv,pl,hz⟩:=I1.list hx
  refine call_enumerate_list pl.isList fun h' hE hI hsz hk=>wpAny_pyIter_enum hE ?_
  exact ⟨_,[s1.heap.objs.size+1,s1.heap.objs.size],_,_,H1,rfl,I1.kept (t':=s1.toks) hk,turn_enumL a _ _ (Nat.succ_ne_self _),⟨⟨_,hE⟩,hI⟩,fp,q⟩
 ·obtain ⟨its,rv,pl,hz⟩:=I1.tuple hx
  refine call_enumT (show s1.heap.IsTuple a its.toArray from pl) fun h' hE hI hsz hk=>wpAny_pyIter_enum hE ?_
  exact ⟨_,[s1.heap.objs.size+1,s1.heap.objs.size],_,_,H1,rfl,I1.kept (t':=s1.toks) hk,turn_enumT a _ _ (Nat.succ_ne_self _),⟨⟨_,hE⟩,hI⟩,fp,q⟩
end
theorem for_enum {Sq:Hp→List V→Prop} {xs:List V} {g:TG} {tb:TS} {D:Ends} {σ:St} {H:Hp} (Pv:Nat→St→Hp→Prop) (h0:Pv 0 σ H) (hl:∀ i σ H,i≤xs.length→Pv i σ H→Sq H xs)
  (hs:∀ i x σ H p,xs[i]? = some x→Pv i σ H→H p=none→g (.ref p) σ (upd H p (.tup [.int i,x])) fun σ2 H2=>tb { D with nx:=Pv (i+1),ct:=Pv (i+1),bk:=D.nx } σ2 H2) (hd:∀ σ H,Pv xs.length σ H→D.nx σ H) :
  ∃ W:Nat→Nat→St→Hp→Prop,(∃ m,W 0 m σ H)∧∀ i m σ H,W i m σ H→
   ((ItE Sq).stop i H∧D.nx σ H)∨((ItE Sq).go i H∧∃ N:St→Hp→Prop,(∀ σ' H',N σ' H'→∃ m',m' < m∧W (i+1) m' σ' H')∧∀ x H',(ItE Sq).yld i H x H'→g x σ H' fun σ2 H2=>tb { D with nx:=N,ct:=N,bk:=D.nx } σ2 H2):=by
 refine ⟨fun i m σ H=>m=xs.length - i∧i≤xs.length∧Pv i σ H,⟨xs.length,by simp,Nat.zero_le _,h0⟩,?_⟩
 rintro i m σ H ⟨rfl,hi,p⟩
 have q:=hl i σ H hi p
 by_cases hlt:i < xs.length
 ·refine .inr ⟨⟨xs,xs[i],q,by simp [hlt]⟩,Pv (i+1),fun σ' H' p'=>⟨xs.length - (i+1),by omega,rfl,hlt,p'⟩,fun x H' y=>?_⟩
  obtain ⟨a,y,e1,hn,e2,hy⟩:=y
  subst e1 e2
  exact hs i y σ H a (hy xs q) p hn
 ·have e:i=xs.length:=by omega
  subst e
  exact .inl ⟨⟨xs,q,rfl⟩,hd σ H p⟩
end L2
namespace L2
open PySem PySem.Spec PyProof.Rows
section
variable {P:Program} {w:World} {κ:Type} [DecidableEq κ] {knd:HeapKind P w κ} {A:Around} {E:Value→Shared→Prop} {s:Shared}
end
section
variable {X:Cx}
end
end L2
namespace L2
open PySem PySem.Spec PyProof.Rows
section
variable {X:Cx} {pos:Pos}
end
end L2
namespace L2
open PySem PySem.Spec PyProof.Rows
section
variable {X:Cx}
end
end L2
namespace L2
open PySem PySem.Spec PyProof.Rows
section
variable {X:Cx} {name:Str} {params:Arguments} {body:List Stmt} {scope:Scope} {pos:Pos} {c P:Addr} {L:List (Pos × Str)} {i:Nat}
end
end L2
namespace L2
open PySem PySem.Spec PyProof.Rows
section
variable {P:Program} {w:World} {κ:Type} [DecidableEq κ] {knd:PySem.KeyKind P w κ} {A:Around} {E:Value→Shared→Prop} {s:Shared}
open AutoSeq1 (wpAny_loadPart') in
end
section
variable {X:Cx} {ex:List Expr} {n:Nat} {tp:Pos}
end
end L2
namespace L2
open PySem PySem.Spec PyProof.Rows
section
variable {P:Program} {w:World} {κ:Type} [DecidableEq κ] {knd:HeapKind P w κ} {A:Around} {E:Value→Shared→Prop} {s:Shared}
end
section
variable {X:Cx}
end
end L2
namespace L2
open PySem PySem.Spec PyProof.Rows
section
variable {X:Cx}
end
end L2
namespace L2
open PySem PySem.Spec PyProof.Rows
section
variable {P:Program} {w:World} {A:Around} {E:Value→Shared→Prop} {s:Shared} {it d:Addr} {i ep:Nat} {es:Array DictEntry}
open AutoSeq1 (wpAny_loadPart') in
end
section
variable {X:Cx} {tg:Expr}
end
section
variable {X:Cx} {ex:List Expr} {n:Nat} {tp:Pos}
end
end L2
namespace L2
open PySem PySem.Spec PyProof.Rows
end L2
namespace L2
open PySem PySem.Spec PyProof.Rows
open AutoSeq1 (wpAny_loadPart') in
open AutoSeq1 (wpAny_loadPart') in
section
variable {X:Cx}
end
end L2
namespace L2
open PySem PySem.Spec PyProof.Rows
def Fly (h:Heap) (e C:Addr) (d:Option Addr):Prop:=∃ (oe:Obj) (vs:Array Value),h.get? e=some oe∧oe.cls=.ref C∧oe.dict=d∧oe.data=.fields vs∧1 < vs.size∧
 (vs[1]? = some .none∨∃ T oT ts,vs[1]? = some (.ref T)∧h.get? T=some oT∧oT.data=.fields ts∧ts[3]? = some .none)
def exR (a C:Addr) (d:Option Addr):HO:=.ext fun h=>∃ (oe:Obj) (vs:Array Value),h.get? a=some oe∧oe.cls=.ref C∧oe.dict=d∧oe.data=.fields vs∧1 < vs.size
theorem exR_ok {P:Program} {w:World} {H:Hp} {h:Heap} {a C:Addr} {d:Option Addr} (q:∃ (oe:Obj) (vs:Array Value),h.get? a=some oe∧oe.cls=.ref C∧oe.dict=d∧oe.data=.fields vs∧1 < vs.size):ObjOk P w H h a (exR a C d):=
 ⟨q,let ⟨o,_,e,_⟩:=q; ⟨o,e⟩,fun _ _ ⟨o,vs,e,r⟩ k=>⟨o,vs,k _ e,r⟩⟩
theorem Fly.there {h:Heap} {a C:Addr} {d:Option Addr} (F:Fly h a C d):∃ (oe:Obj) (vs:Array Value),h.get? a=some oe∧oe.cls=.ref C∧oe.dict=d∧oe.data=.fields vs∧1 < vs.size:=
 let ⟨o,vs,e,c,q,f,z,_⟩:=F; ⟨o,vs,e,c,q,f,z⟩
section
variable {M:Model} {A:Around} {E:Value→Shared→Prop} {s:Shared} {base:Heap} {env:Env} {outer:List Env} {L e C:Addr} {d:Option Addr}
def NoteK (env:Env) (outer:List Env) (e:Addr) (h h':Heap):Prop:=
 (∀ b o,b≠e→b∉frs (env :: outer)→h.get? b=some o→h'.get? b=some o)∧∀ b o,b≠e→h.get? b=some o→∃ sl,h'.get? b=some { o with slots:=sl }
theorem entry_ok {oe:Obj} {vs:Array Value} {hd0:Value} {had:Bool} {Q:Unit→Shared→Prop} (hfr:A.frames=some (env :: outer)) (hl:s.heap.FunFrames base (env :: outer)) (hf:env.frame=some L)
  (he:s.heap.get? e=some oe) (hc:oe.cls=.ref C) (hdd:oe.dict=d) (hv:oe.data=.fields vs) (hz:1 < vs.size) (h:∀ h',NoteK env outer e s.heap h'→Fly h' e C d→Q () { s with heap:=h' }) :
  wpAny M A (do let fr ← frameOf env; let pl ← entryPlaceOf L had; let en ← EntryCells.newEntry hd0 fr .none (rawInt L) .none pl; setField (.ref e) 1 en) (fun _ s'=>wpAny M A (setFlight (.ref e) none) Q E s') E s:=by
 have nfr:e∉(env :: outer).filterMap (·.frame):=fun z=>by
  obtain ⟨_,o,q,nf⟩:=hl.mem z
  rw [he] at q
  cases q
  exact nf vs hv
 refine wpAny_bind (wpAny_frameOf_fun hfr hl hf fun h1 k1=>?_)
 refine wpAny_bind (wpAny_entryPlaceOf fun pl hpl=>?_)
 unfold EntryCells.newEntry newFields
 have sz5:=hpl.sizeOk5 hd0 (.ref L) .none (rawInt L) .none
 refine wpAny_bind (wpAny_newObj_type ?_ (hpl.sizeOk5 _ _ _ _ _))
 have g1:h1.get? e=some oe:=(k1.2.1 e nfr).trans he
 have ht3:(([hd0,.ref L,.none,rawInt L,.none] ++ (if pl.isEmpty then List.replicate 6 Value.none else pl)).toArray)[3]? = some (rawInt L):=by simp
 have hts:3 < (([hd0,.ref L,.none,rawInt L,.none] ++ (if pl.isEmpty then List.replicate 6 Value.none else pl)).toArray).size:=(Array.getElem?_eq_some_iff.mp ht3).1
 generalize hoT:([hd0,.ref L,.none,rawInt L,.none] ++ (if pl.isEmpty then List.replicate 6 Value.none else pl)).toArray=ts at ht3 hts
 have g2:=Heap.get?_push_of_some (h:=h1) { cls:=.type "traceback",dict:=none,data:=.fields ts } g1
 refine wpAny_setField g2 hv hz ?_
 have nT:h1.objs.size≠e:=Nat.ne_of_gt (Heap.lt_size g1)
 have v3:=Obj.data_mapFields hv (·.setIfInBounds 1 (Value.ref h1.objs.size))
 have g3:=Heap.get?_update_self (Obj.mapFields (·.setIfInBounds 1 (Value.ref h1.objs.size))) g2 (Obj.isFreed_of_fields v3)
 have t3:((h1.push { cls:=.type "traceback",dict:=none,data:=.fields ts }).update e (Obj.mapFields (·.setIfInBounds 1 (Value.ref h1.objs.size)))).get? h1.objs.size=some { cls:=.type "traceback",dict:=none,data:=.fields ts }:=
  (Heap.get?_update_other _ _ (Ne.symm nT)).trans (Heap.get?_push_size h1 rfl)
 unfold setFlight
 refine wpAny_bind (wpAny_field g3 v3 (x:=.ref h1.objs.size) (by simp [hz]) ?_)
 rw [if_pos (by simp)]
 refine wpAny_setField t3 rfl hts (h _ ⟨fun b o nb nf q=>?_,fun b o nb q=>?_⟩ ?_)
 ·have q1:h1.get? b=some o:=(k1.2.1 b nf).trans q
  rw [Heap.get?_update_other _ _ (Nat.ne_of_gt (Heap.lt_size q1)),Heap.get?_update_other _ _ (Ne.symm nb)]
  exact Heap.get?_push_of_some _ q1
 ·obtain ⟨sl,q1⟩:=k1.2.2 b o q
  refine ⟨sl,?_⟩
  rw [Heap.get?_update_other _ _ (Nat.ne_of_gt (Heap.lt_size q1)),Heap.get?_update_other _ _ (Ne.symm nb)]
  exact Heap.get?_push_of_some _ q1
 ·refine ⟨_,_,(Heap.get?_update_other _ _ nT).trans g3,(Obj.cls_mapFields _ _).trans hc,?_,v3,by simpa using hz,.inr ⟨h1.objs.size,_,_,by simp [hz],Heap.get?_update_self _ t3 (Obj.isFreed_of_fields (Obj.data_mapFields rfl _)),Obj.data_mapFields rfl _,?_⟩⟩
  ·cases oe
   cases hv
   exact hdd
  ·rw [Array.getElem?_setIfInBounds_self_of_lt hts]
   rfl
theorem note_ok {Q:Unit→Shared→Prop} (hfr:A.frames=some (env :: outer)) (hl:s.heap.FunFrames base (env :: outer)) (hf:env.frame=some L) (F:Fly s.heap e C d) (h:∀ h',NoteK env outer e s.heap h'→Fly h' e C d→Q () { s with heap:=h' }) :
  wpAny M A (noteFrame (.ref e) env) (fun _ s'=>wpAny M A (setFlight (.ref e) none) Q E s') E s:=by
 obtain ⟨oe,vs,he,hc,hdd,hv,hz,hT⟩:=F
 unfold noteFrame
 simp only [hf]
 rcases hT with h1 | ⟨T,oT,ts,h1,hT,hdT,h3⟩
 ·refine wpAny_bind (wpAny_field he hv h1 ?_)
  rw [if_neg (by decide)]
  exact entry_ok hfr hl hf he hc hdd hv hz h
 ·refine wpAny_bind (wpAny_field he hv h1 ?_)
  rw [if_pos (by simp)]
  refine wpAny_bind (wpAny_field hT hdT h3 ?_)
  rw [if_neg (show ¬ ((Value.none==rawInt L)=true) from by simp [rawInt])]
  refine wpAny_bind (wpAny_setField hT hdT (Array.getElem?_eq_some_iff.mp h3).1 ?_)
  rw [Heap.update_setField_same s.heap T oT ts 3 .none hT hdT h3]
  exact entry_ok hfr hl hf he hc hdd hv hz h
end
def CXE (P:Program) (w:World):CXT:=fun outer H s E e s'=>∃ (a C:Addr) (d:Option Addr) (H':Hp),e=.ref a∧s'.os=s.os∧AllBare s'.gens∧Un (frs outer) [] H H' s.heap s'.heap∧HOk P w H' s'.heap∧Fly s'.heap a C d∧H' a=some (exR a C d)∧E (.ref a) none H'
theorem FnOk.cx {P:Program} {w:World} {K:PySem.W.Frag} {mg:Str→Option Value} {base:Heap} {CX:CXT} {k:Nat} {f:Addr} {fd:FuncData} {ps:List Str} {sp:Sp} (F:FnOk P w K mg base CX0 k f fd ps sp):FnOk P w K mg base CX k f fd ps sp:=
 ⟨F.len,fun A outer s H args us vs Q E hr he hb hv hs=>codeAny_mono (F.run A outer s H args us vs Q E hr he hb hv hs) fun r s' q=>by
  cases r with
  | error e=>exact False.elim q
  | ok fl=>cases fl <;> exact q⟩
section
variable {X:Cx} {pins:List (Addr × Obj)} {σ:St} {H:Hp} {s:Shared} {a C:Addr} {d:Option Addr} {M:Model} {A:Around} {E':Value→Shared→Prop}
theorem note_inv {Q:Unit→Shared→Prop} (I:Inv X pins σ H s) (hA:A.frames=some X.stack) (hst:X.stack=X.env :: X.outer) (hfr:X.env.frame=some X.env.locals) (ha:H a=some (exR a C d)) (F:Fly s.heap a C d)
  (h:∀ h',Inv X pins σ H { s with heap:=h' }→Fly h' a C d→Q () { s with heap:=h' }):wpAny M A (noteFrame (.ref a) X.env) (fun _ s'=>wpAny M A (setFlight (.ref a) none) Q E' s') E' s:=by
 refine note_ok (base:=X.base) (outer:=X.outer) (by rw [hA,hst]) (by rw [← hst]; exact I.stack) hfr F fun h' ⟨k1,k2⟩ F'=>h h' ?_ F'
 have na:∀ b,H b=none→b≠a:=fun b n z=>by rw [z,ha] at n; cases n
 refine I.call (g':=s.gens) (t':=s.toks) (d':=s.drawn) (ch:=[]) ⟨fun b o q n nf _=>k1 b o (na b n) (by rw [← hst]; exact nf) q,fun b o q n _ _=>k2 b o (na b n) q,fun b o q n _=>n,fun b o q _=>?_,fun _ _ q=>q,fun _ _ _ q=>q,fun b ps q=>⟨#[],by rw [q]; simp⟩⟩ (fun b o q=>?_) I.bare (fun b z=>absurd z (by simp))
 ·by_cases z:b=a
  ·obtain ⟨oe,_,e,_⟩:=F'
   exact ⟨oe,by rw [z]; exact e⟩
  ·obtain ⟨sl,e⟩:=k2 b o z q
   exact ⟨_,e⟩
 ·by_cases z:b=a
  ·subst z
   rw [ha] at q
   cases q
   exact exR_ok F'.there
  ·refine (I.hok b o q).stay (fun c v hc r=>k1 c v ?_ ?_ r) (fun _ r=>r) fun _ _ r=>r
   ·rintro rfl
    rcases hc with rfl | hc
    ·exact z rfl
    ·rw [ha] at hc; cases hc
   ·intro hm
    rw [← hst] at hm
    have:=I.stkFree c hm
    rcases hc with rfl | hc
    ·rw [q] at this; cases this
    ·rw [hc] at this; cases this
end
def RX (X:Cx) (E:St→XK):Prop:=∀ (pins:List (Addr × Obj)) (σ:St) (H:Hp) (s:Shared) (a C:Addr) (d:Option Addr),Inv X pins σ H s→H a=some (exR a C d)→Fly s.heap a C d→E σ (.ref a) none H→X.xe (.ref a) s
theorem rx_def {P:Program} {w:World} {K:PySem.W.Frag} {mg:Str→Option Value} {base:Heap} {N:List Str} {qual:Str} {scope:Scope} {f:Addr} {cd:Value} {A:Around} {outer:List Env} {s:Shared} {H:Hp} {E:XK} :
  RX (cxOf (CXE P w) P w K mg base N qual scope f cd A outer s H E) fun _=>E:=by
 intro pins σ H1 s1 a C d I ha F e
 refine wpAny_bind (note_inv I I.ok.frames rfl rfl ha F fun h' I' F'=>?_)
 exact ⟨a,C,d,H1,rfl,I'.os,I'.bare,I'.base,I'.hok,F',ha,e⟩
section
variable {X:Cx} {E:St→XK}
def tCallX (sp:Sp) (E:St→XK) (t:TA):TE:=fun σ H Q=>t σ H fun vs H1=>sp vs H1 Q (E σ)
theorem run_fnX {k:Nat} {f:Addr} {fd:FuncData} {ps:List Str} {sp:Sp} {pins:List (Addr × Obj)} {σ:St} {H:Hp} {s:Shared} {Q:VK} {us:List Value} {vs:List V} (F:FnOk X.prog X.w X.K X.mg X.base (CXE X.prog X.w) k f fd ps sp) (hr:Room k X.A) (hb:Binds X.K fd ps []) (hx:RX X E)
  (I:Inv X pins σ H s) (r:Vals vs us) (h:sp vs H Q (E σ)):wpAny (model X.prog X.w) X.A (call (.ref f) us) (EP X pins σ Q) X.xe s:=by
 have hl:us.length=ps.length:=r.length.symm.trans (F.len _ _ _ _ h)
 have bd:BindsTo s fd ⟨us,[]⟩ (ps.zip us):=by
  have:=hb s us I.kIn (by rw [List.append_nil]; exact hl)
  rwa [List.append_nil] at this
 refine wpAny_call (codeAny_mono (F.run X.A X.stack s H ⟨us,[]⟩ us vs Q (E σ) hr I.env0 bd r h) fun r s' q=>?_)
 cases r with
 | ok fl=>cases fl with
  | ret u=>exact I.after q
  | _=>exact False.elim q
 | error e=>
  obtain ⟨a,C,d,H',rfl,os,bare,un,hok,F,ha,q⟩:=q
  obtain ⟨hh,g,dd,t,os'⟩:=s'
  obtain rfl:os'=s.os:=os
  exact hx pins σ H' _ a C d (I.call (h':=hh) (g':=g) (d':=dd) (t':=t) (ch:=[]) un hok bare fun b z=>absurd z (by simp)) ha F q
theorem pe_callX {k:Nat} {f:Addr} {fd:FuncData} {ps:List Str} {sp:Sp} {x:Str} {p pos:Pos} {e:Expr} {es:List Expr} {t:TA} (F:FnOk X.prog X.w X.K X.mg X.base (CXE X.prog X.w) k f fd ps sp) (hr:Room k X.A) (hg:Gl X x) (hm:X.mg x=some (.ref f)) (hk:PySem.W.keepIn X.K (.ref f)=true) (hb:Binds X.K fd ps []) (hx:RX X E)
  (ha:PA X (e :: es) t) (hdb:(x==("__debug__" : Str))=false:=by decide) (he:starEach (e :: es) X.env=(false,eval e X.env) :: starEach es X.env:=by rfl) (hpl:(backTo pos (starEach es X.env)).any (·.1)=false:=by rfl) :
  PE X (.Call (.Name x p) (e :: es) [] pos) (tCallX sp E t):=by
 intro pins s σ H Q I h
 refine wpAny_Call_Name_kw (ld_glob I hg hm ?_ hdb)
 exact PySem.W.callWith_K (h₀:=X.base) I.ok.mod.kin hk (thn (ha pos pins s σ H _ I h) fun us s1 ⟨vs,H1,I1,r,q⟩=>⟨I1.kIn,run_fnX F hr hb hx I1 r q⟩) he hpl
def sRaise (K:PySem.W.Frag) (te:TE) (E:St→XK):TS:=fun _ σ H=>te σ H fun x H1=>∃ a C d ini,x=.ref a∧excK K C ini=true∧H1 a=some (exH a C d)∧E σ (.ref a) none (upd H1 a (exR a C d))
theorem raise_ok {s:Shared} {K:PySem.W.Frag} {A:Around} {M:Model} {E0:Value→Shared→Prop} {x:Sem Value} {env:Env} {Q:Flow→Shared→Prop} (hh:A.handled=none)
  (h:wpAny M A x (fun v s1=>∃ a C T d ini,v=.ref a∧ExcC K s1.heap C ini∧s1.heap.get? a=some (exO C T d)∧E0 (.ref a) s1) E0 s):wpAny M A (raiseStmt env (some x) none) Q E0 s:=by
 unfold raiseStmt
 refine wpAny_bind (wpAny_mono h (fun v s1 h1=>?_) fun _ _ z=>z)
 obtain ⟨a,C,T,d,ini,rfl,c,he,hE⟩:=h1
 obtain ⟨nm,q,N,bs,bm,sn,sub,ab,col,dd,k0,k1,k2,k3,k5,mN,hC,hN,hi,Tl⟩:=c.obj
 have hbe:bm.contains (.type "BaseException")=true:=Tl.hasType (by decide)
 have hcB:(Value.ref C :: bm).contains (.type "BaseException")=true:=by rw [List.contains_cons,hbe,Bool.or_true]
 obtain ⟨hp,g,dr,tk,os⟩:=s1
 repeat (first | with_reducible refine wpAny_loadPart_at he ?_ | with_reducible refine wpAny_loadPart_at hC ?_ | (with_reducible refine wpAny_isSubtype_exc hC ?_; rw [hcB]) | wp_step)
 exact wpAny_raiseNew_none hh hE
theorem ps_raise {e:Expr} {te:TE} {pos:Pos} {K:PySem.W.Frag} (he:PE X e te) (hx:RX X E) (hc:X.calm=true:=by rfl) (hK:X.K=K:=by rfl):PS X (.Raise (some e) none pos) (sRaise K te E):=by
 subst hK
 intro pins s σ H D I h
 rw [arm_exec_Raise]
 refine wpAny_bind (wpAny_standAt (raise_ok (K:=X.K) (I.ok.hd hc) (wpAny_bind (thn (he pins s σ H _ I h) fun u s1 ⟨x,H1,I1,rx,a,C,d,ini,ex,ck,ea,q⟩=>wpAny_bind (wpAny_standAt (wpAny_pure ?_))))))
 subst ex
 obtain rfl:u=Value.ref a:=rx
 obtain ⟨⟨T,g⟩,_,_⟩:=(show ObjOk X.prog X.w H1 s1.heap a (exH a C d) from I1.hok a _ ea)
 refine ⟨a,C,T,d,ini,rfl,excC_of I1.kIn ck,g,?_⟩
 have F:Fly s1.heap a C d:=⟨_,_,g,rfl,rfl,rfl,(by show 1 < 6; decide),.inl rfl⟩
 refine hx pins σ _ s1 a C d ?_ upd_same F q
 exact I1.write (t':=s1.toks) (h':=s1.heap) (x:=a) (e:=a) (by rw [ea]; exact True.intro) (.inl rfl) (fun b o _ q=>q) ⟨_,g⟩ (exR_ok F.there)
end
abbrev Cx.near (X:Cx) (A:Around) (c:Bool) (pn:List (Addr × Obj)) (xe:Value→Shared→Prop):Cx:={ X with A:=A,calm:=c,pn:=pn,xe:=xe }
section
variable {X:Cx} {pins pins':List (Addr × Obj)} {σ:St} {H:Hp} {s:Shared} {A:Around} {c:Bool} {pn:List (Addr × Obj)} {xe:Value→Shared→Prop}
theorem Inv.near (I:Inv X pins σ H s) (hA:A.frames=X.A.frames) (hc:c=true→A.handled=none) (hp:∀ p∈pn ++ pins',p∈X.pn ++ pins):Inv (X.near A c pn xe) pins' σ H s:=
 ⟨⟨I.ok.mod,I.ok.kind,I.ok.glob,I.ok.blt,I.ok.above,I.ok.inj,I.ok.has,I.ok.cab,hc,hA.trans I.ok.frames,I.ok.stk,I.ok.exf,I.ok.bs,I.ok.bsz,I.ok.noex,I.ok.exfs,I.ok.funs,I.ok.frf⟩,
  I.os,I.bare,I.base,I.loc,I.cell,I.free,I.freeC,fun p h=>I.pin p (hp p h),I.hok,I.len⟩
theorem Inv.unnear (I:Inv (X.near A c pn xe) pins' σ H s) (hA:X.A.frames=A.frames) (hc:X.calm=true→X.A.handled=none) (hp:∀ p∈X.pn ++ pins,p∈pn ++ pins'):Inv X pins σ H s:=
 ⟨⟨I.ok.mod,I.ok.kind,I.ok.glob,I.ok.blt,I.ok.above,I.ok.inj,I.ok.has,I.ok.cab,hc,hA.trans I.ok.frames,I.ok.stk,I.ok.exf,I.ok.bs,I.ok.bsz,I.ok.noex,I.ok.exfs,I.ok.funs,I.ok.frf⟩,
  I.os,I.bare,I.base,I.loc,I.cell,I.free,I.freeC,fun p h=>I.pin p (hp p h),I.hok,I.len⟩
theorem name_goes {M:Model} {E:Value→Shared→Prop} {i:Nat} {n:Str} {pos:Pos} {Q:Unit→Shared→Prop} (I:Inv X pins σ H s) (hN:X.N.Nodup) (hi:X.N[i]? = some n) (hx:X.env.scope.names.lookup n=some .local)
  (h:∀ s',Inv X pins (σ.set i none) H s'→Q () s'):wpAny M A (do bindName X.env n .none; unbindBehindTheSuite X.env n pos) Q E s:=by
 have hcls:(X.env.scope.kind==.class || (X.env.scope.kind==.module && X.env.locals != X.env.globals))=false:=by rw [I.ok.kind]; rfl
 refine wpAny_bind (wpAny_bindName (store_ok (v:=.non) I hN hi (.inl hx) rfl (fun s1 I1=>?_) (.inr hx)))
 obtain ⟨m,hn,hl⟩:=id I1.loc
 unfold unbindBehindTheSuite
 refine wpAny_onRaise ?_
 unfold unbindName
 refine wpAny_bind (wpAny_point (wpAny_bind ?_))
 unfold deleteName
 simp only [show X.env.kindOf n=some .local from hx,hcls]
 rw [if_neg (by decide)]
 have hm:(m n).isSome=true:=by
  obtain ⟨u,_,z⟩:=hl i n .non hi (List.getElem?_set_self (by rw [I.len]; exact (List.getElem?_eq_some_iff.mp hi).1)) (.inl hx)
  rcases z with ⟨_,e⟩ | ⟨z,_⟩
  ·rw [e]; rfl
  ·rcases z with z | z <;> (rw [show X.env.kindOf n=some .local from hx] at z; cases z)
 refine wpAny_bind (wpAny_nsDel_keeps hn fun h2 v2 hn2 hs=>?_)
 rw [hm]
 simp only [Bool.not_true,Bool.false_eq_true,if_false]
 refine wpAny_pure (wpAny_point (h { s1 with heap:=h2 } ?_))
 have cne:=I1.cne
 obtain ⟨oL,_,_,hoL,_⟩:=id hn
 have nL:∀ b o,X.s₀.heap.get? b=some o→b≠X.env.locals:=fun b o q=>Nat.ne_of_lt (Nat.lt_of_lt_of_le (Heap.lt_size q) I.ok.above)
 refine ⟨I1.ok,I1.os,I1.bare,⟨fun b o e n hb hx=>?_,fun b o e n hb hx=>?_,I1.base.free,fun b o e hx=>?_,I1.base.tups,I1.base.frzs,I1.base.tbls⟩,⟨_,hn2,fun j y v' e1 e2 e3=>?_⟩,fun y c e=>?_,I1.free,I1.freeC,fun p hp=>?_,fun b ob e=>?_,by simpa using I.len⟩
 ·exact (hs.2 b (nL b o e)).trans (I1.base.keep b o e n hb hx)
 ·obtain ⟨sl,q⟩:=I1.base.slot b o e n hb hx
  exact ⟨sl,(hs.2 b (nL b o e)).trans q⟩
 ·obtain ⟨o',q⟩:=I1.base.there b o e hx
  exact ⟨o',(hs.2 b (nL b o e)).trans q⟩
 ·by_cases hj:j=i
  ·subst hj
   rw [List.getElem?_set_self (by rw [I.len]; exact (List.getElem?_eq_some_iff.mp hi).1)] at e2
   cases e2
  ·rw [List.getElem?_set_ne (Ne.symm hj)] at e2
   obtain ⟨u',r',q⟩:=hl j y v' e1 (by rw [List.getElem?_set_ne (Ne.symm hj)]; exact e2) e3
   refine ⟨u',r',?_⟩
   rcases q with ⟨k,e⟩ | ⟨k,c,e,z⟩
   ·have ny:y≠n:=fun e=>hj (nodup_ix hN e1 (e▸hi))
    exact .inl ⟨k,(if_neg ny).trans e⟩
   ·exact .inr ⟨k,c,e,z.sameBut hs (cne y c e)⟩
 ·obtain ⟨w',z⟩:=I1.cell y c e
  exact ⟨w',z.sameBut hs (cne y c e)⟩
 ·obtain ⟨e,n,ne,nf,d⟩:=I1.pin p hp
  exact ⟨(hs.2 p.1 ne).trans e,n,ne,nf,d⟩
 ·refine (I1.hok b ob e).stay (fun c w' hc q=>(hs.2 c ?_).trans q) (fun _ q=>q) fun _ _ q=>q
  rintro rfl
  rcases hc with rfl | hc
  ·rw [I1.free] at e; cases e
  ·rw [I1.free] at hc; cases hc
theorem flight_ok {M:Model} {E:Value→Shared→Prop} {a C:Addr} {d:Option Addr} {Q:Unit→Shared→Prop} (F:Fly s.heap a C d) (h:Q () s):wpAny M A (setFlight (.ref a) none) Q E s:=by
 obtain ⟨oe,vs,he,hc,hdd,hv,hz,hT⟩:=F
 unfold setFlight
 rcases hT with h1 | ⟨T,oT,ts,h1,hT,hdT,h3⟩
 ·refine wpAny_bind (wpAny_field he hv h1 ?_)
  rw [if_neg (by decide)]
  exact wpAny_pure h
 ·refine wpAny_bind (wpAny_field he hv h1 ?_)
  rw [if_pos (by simp)]
  refine wpAny_setField hT hdT (Array.getElem?_eq_some_iff.mp h3).1 ?_
  show Q () { s with heap:=s.heap.update T (Obj.mapFields (·.setIfInBounds 3 .none)) }
  rw [Heap.update_setField_same s.heap T oT ts 3 .none hT hdT h3]
  exact h
end
def EX (K:PySem.W.Frag) (Cs:Addr) (i j:Nat) (D:Ends):St→XK:=fun σ v _ H=>∃ a C d,v=.ref a∧H a=some (exR a C d)∧PySem.W.exmOne K (.ref C) (.ref Cs)=some true∧D.nx (((σ.set i (some (.ref a))).set j (some (.ref a))).set i none) H
def tTry (K:PySem.W.Frag) (Cs:Addr) (i j:Nat) (tb:(St→XK)→TS):TS:=fun D σ H=>tb (EX K Cs i j D) D σ H
theorem ps_try {X:Cx} {K:PySem.W.Frag} {Cs:Addr} {i j:Nat} {cls n x:Str} {body:List Stmt} {p p1 p2 p3 hp pos:Pos} {tb:(St→XK)→TS} (hN:X.N.Nodup) (hi:X.N[i]? = some n) (hj:X.N[j]? = some x) (hxn:X.env.scope.names.lookup n=some .local) (hxx:X.env.scope.names.lookup x=some .local)
  (hm:X.mg cls=some (.ref Cs)) (hst:X.stack=X.env :: X.outer) (hfr:X.env.frame=some X.env.locals)
  (hb:∀ (pn:List (Addr × Obj)) (xe:Value→Shared→Prop) (E:St→XK),RX (X.near X.A X.calm pn xe) E→PSs (X.near X.A X.calm pn xe) body (tb E))
  (hg:Gl X cls:=by rfl) (hK:X.K=K:=by rfl) (hdb:(cls==("__debug__" : Str))=false:=by decide) (hd1:(n==("__debug__" : Str))=false:=by decide) (hd2:(n==("__classdict__" : Str))=false:=by decide) (hs:swapsWith (.Name n p2) (some (.Name x p1)) p3.line X.env=pure false:=by rfl) :
  PS X (.Try body [.ExceptHandler (some (.Name cls p)) (some n) [.Assign [.Name x p1] (.Name n p2) p3] hp] [] [] pos) (tTry K Cs i j tb):=by
 subst hK
 intro pins s σ H D I h
 refine wpAny_Try_except ?_
 generalize hXE:(fun (e:Value) (s1:Shared)=>wpAny (model X.prog X.w) X.A (noteFrame e X.env) (fun _ s2=>wpAny (model X.prog X.w) X.A (setFlight e none) (fun _ s3=>wpAny (model X.prog X.w) X.A (handleBy e X.env [.ExceptHandler (some (.Name cls p)) (some n) [.Assign [.Name x p1] (.Name n p2) p3] hp]) (SP X pins D) X.xe s3) X.xe s2) X.xe s1)=XE
 have mA:∀ p∈X.pn ++ pins,p∈(X.pn ++ pins) ++ ([]:List (Addr × Obj)):=fun p h=>by rw [List.append_nil]; exact h
 have I':Inv (X.near X.A X.calm (X.pn ++ pins) XE) [] σ H s:=I.near rfl I.ok.hd fun p h=>by rw [List.append_nil] at h; exact h
 have back:∀ {pins' σ H s},Inv (X.near X.A X.calm (X.pn ++ pins) XE) pins' σ H s→Inv X pins σ H s:=fun I=>I.unnear rfl I.ok.hd fun p h=>List.mem_append_left _ h
 have rx:RX (X.near X.A X.calm (X.pn ++ pins) XE) (EX X.K Cs i j D):=by
  rintro pins' σ1 H1 s1 a C d I1 ha F ⟨a',C',d',e,ha',hex,q⟩
  cases e
  rw [ha] at ha'
  have hCC:C'=C:=by
   obtain ⟨o1,v1,g1,c1,_⟩:=F.there
   obtain ⟨⟨o2,v2,g2,c2,_⟩,_⟩:=(show ObjOk X.prog X.w H1 s1.heap a (exR a C' d') from I1.hok a _ (ha.trans ha'))
   rw [g1] at g2
   cases g2
   rw [c1] at c2
   cases c2
   rfl
  subst hCC
  have I1:=back I1
  show XE (.ref a) s1
  rw [← hXE]
  refine note_inv I1 I1.ok.frames hst hfr ha F fun h2 I2 F2=>?_
  have F2:Fly ({ s1 with heap:=h2 }:Shared).heap a C' d:=F2
  generalize ({ s1 with heap:=h2 }:Shared)=s2 at I2 F2
  have I3:Inv (X.near (X.A.mark (some (.ref a))) false X.pn fun _ _=>False) pins σ1 H1 s2:=I2.near rfl (fun z=>nomatch z) fun p h=>h
  refine wpAny_handleBy_cons (codeAny_handlers_test (ld_glob (X:=X.near (X.A.mark (some (.ref a))) false X.pn fun _ _=>False) I3 hg hm ?_ hdb)) (by intro z; cases z)
  have LT:PySem.W.Looks (model X.prog X.w) s2.heap (typeOf (.ref a)) (.ref C'):=by
   obtain ⟨oe,vs,ge,hc,_⟩:=F2
   exact hc▸(PySem.W.Looks.ld ge).andThen .now
  refine (PySem.W.exm_one I2.kIn LT hex).here ?_
  refine codeAny_handlers_suite_as (flight_ok F2 (store_ok (v:=.ref a) I2 hN hi (.inl hxn) rfl (fun s4 I4=>?_) (.inr hxn)))
  have I4:Inv (X.near (X.A.mark (some (.ref a))) false X.pn fun _ _=>False) pins (σ1.set i (some (.ref a))) H1 s4:=I4.near rfl (fun z=>nomatch z) fun p h=>h
  refine wpAny_mono (pss_one (ps_set (X:=X.near (X.A.mark (some (.ref a))) false X.pn fun _ _=>False) hN hj (.inl hxx) (pe_var hi (.inl hxn) hd1 hd2) hs (.inr hxx)) pins s4 _ H1 { nx:=fun σ' H'=>σ'=(σ1.set i (some (.ref a))).set j (some (.ref a))∧H'=H1,rt:=fun _ _=>False } I4 ?_) (fun f s5 q5=>?_) fun _ _ z=>z.elim
  ·exact ⟨_,List.getElem?_set_self (by rw [I2.len]; exact (List.getElem?_eq_some_iff.mp hi).1),rfl,rfl⟩
  ·cases f with
   | next=>
    obtain ⟨σ5,H5,I5,rfl,rfl⟩:=q5
    have I6:Inv X pins ((σ1.set i (some (.ref a))).set j (some (.ref a))) H5 s5:=I5.unnear rfl I2.ok.hd fun p h=>h
    exact name_goes I6 hN hi hxn fun s7 I7=>⟨_,H5,I7,q⟩
   | ret u=>obtain ⟨_,_,_,_,_,z⟩:=q5; exact z.elim
   | brk=>obtain ⟨_,_,_,z⟩:=q5; exact z.elim
   | cont=>obtain ⟨_,_,_,z⟩:=q5; exact z.elim
 refine wpAny_mono (hb _ XE _ rx [] s σ H D I' h) (fun f s1 q=>?_) fun _ _ q=>q
 cases f with
 | next=>
  obtain ⟨σ1,H1,I1,q⟩:=q
  exact wpAny_execs_nil ⟨σ1,H1,back I1,q⟩
 | ret u=>
  obtain ⟨v,σ1,H1,I1,r,q⟩:=q
  exact ⟨v,σ1,H1,back I1,r,q⟩
 | brk=>obtain ⟨σ1,H1,I1,q⟩:=q; exact ⟨σ1,H1,back I1,q⟩
 | cont=>obtain ⟨σ1,H1,I1,q⟩:=q; exact ⟨σ1,H1,back I1,q⟩
end L2
namespace L2
open PySem PySem.Spec PyProof.Rows
def ExnR (H:Hp) (a C:Addr) (fs:List (Str × V)):Prop:=(H a=some (exR a C none)∧fs=[])∨∃ dx,H a=some (exR a C (some dx))∧H dx=some (xdH dx fs)
theorem ExnR.same {H H':Hp} {a C:Addr} {fs:List (Str × V)} (h:ExnR H a C fs) (e:Same H H'):ExnR H' a C fs:=by
 rcases h with ⟨h1,h2⟩ | ⟨dx,h1,h2⟩
 ·exact .inl ⟨e _ _ h1,h2⟩
 ·exact .inr ⟨dx,e _ _ h1,e _ _ h2⟩
section
variable {X:Cx} {pins:List (Addr × Obj)} {σ:St} {H:Hp} {s:Shared} {a C:Addr} {fs:List (Str × V)} {A:Around} {E:Value→Shared→Prop}
theorem ExnR.inst (I:Inv X pins σ H s) (e:ExnR H a C fs):∃ ox od,PySem.W.InstAt s.heap a ox C od∧∀ f v,fs.lookup f=some v→∃ o u,od=some o∧PySem.W.lookIn f o=some (some u)∧RelV v u:=by
 rcases e with ⟨h1,rfl⟩ | ⟨dx,h1,h2⟩
 ·obtain ⟨⟨oe,vs,g,c,d,fl,_⟩,_,_⟩:=(show ObjOk X.prog X.w H s.heap a (exR a C none) from I.hok a _ h1)
  obtain ⟨cls,dct,dat,sl⟩:=oe
  cases c
  cases d
  cases fl
  exact ⟨_,none,⟨g,rfl,rfl,True.intro⟩,fun f v z=>by cases z⟩
 ·obtain ⟨⟨oe,vs,g,c,d,fl,_⟩,_,_⟩:=(show ObjOk X.prog X.w H s.heap a (exR a C (some dx)) from I.hok a _ h1)
  obtain ⟨cls,dct,dat,sl⟩:=oe
  cases c
  cases d
  cases fl
  obtain ⟨⟨mA,n,r,_⟩,_,_⟩:=(show ObjOk X.prog X.w H s.heap dx (xdH dx fs) from I.hok dx _ h2)
  obtain ⟨od,ho,hl⟩:=lookIn_ns n
  refine ⟨_,some od,⟨g,rfl,rfl,ho⟩,fun f v z=>?_⟩
  obtain ⟨u,hu,ru⟩:=RelO.some_of (v:=v) (o:=mA f) (by rw [← z]; exact r f)
  exact ⟨od,u,rfl,by rw [hl,hu],ru⟩
def tXFldR (K:PySem.W.Frag) (ta:TE) (f:Str):TE:=fun σ H Q=>ta σ H fun x H1=>∃ a C fs v,x=.ref a∧ExnR H1 a C fs∧ExcF K C∧NoAttr K C f∧fs.lookup f=some v∧Q v H1
theorem pe_xfldR {K:PySem.W.Frag} {e:Expr} {ta:TE} {f:Str} {pos:Pos} (he:PE X e ta) (hb:attributeBase e f X.env (eval e X.env)=eval e X.env:=by rfl) (hK:X.K=K:=by rfl):PE X (.Attribute e f pos) (tXFldR K ta f):=by
 subst hK
 intro pins s σ H Q I h
 refine attr_of hb (thn (he pins s σ H _ I h) fun u s1 ⟨x,H1,I1,rx,a,C,fs,v,ex,ea,c,n,l,q⟩=>?_)
 subst ex
 obtain rfl:u=Value.ref a:=rx
 obtain ⟨ox,od,J,hl⟩:=ea.inst I1
 obtain ⟨o,u,rfl,h1,ru⟩:=hl f v l
 exact exc_value I1.kIn J c.ga c.gn c.be (PySem.W.findObj_own c.hasD n rfl h1) (handed_of ru) ⟨v,H1,I1.tok _,ru,q⟩
inductive rIsRI (K:PySem.W.Frag) (xs:List V) (H:Hp) (Q:VK):Prop
 | mk (a C fs c u b:_) (h1:xs=[.ref a,c]) (h2:ExnR H a C fs) (h3:ExcF K C) (h4:RelV c u) (h5:((∃ n,c=.ty n)∨∃ d,c=.ref d)) (h6:PySem.W.kitOne K (.ref C) u=some b) (h7:Q (.bl b) H):rIsRI K xs H Q
def rIsR (K:PySem.W.Frag):List V→Hp→VK→Prop:=fun xs H Q=>rIsRI K xs H Q
theorem call_isR {K:PySem.W.Frag} (hK:X.K=K:=by rfl):CallR X (.builtin "isinstance") (rIsR K):=by
 subst hK
 intro pins s σ H xs us Q I r h
 obtain ⟨a,C,fs,c,u,b,rfl,e,cf,rc,kc,hk,q⟩:=h
 obtain ⟨u1,u2,rfl,r1,r2⟩:=Vals.two r
 obtain rfl:u1=Value.ref a:=r1
 obtain rfl:u2=u:=RelV.ty_inj r2 rc kc
 obtain ⟨ox,od,J,_⟩:=e.inst I
 exact PySem.W.kia_one (kitx_exc cf) I.kIn J hk (fun z=>nomatch z) fun tk=>⟨.bl b,H,I.tok _,rfl,q⟩
end
section
variable {P:Program} {w:World} {K:PySem.W.Frag} {mg:Str→Option Value} {base:Heap}
theorem Fun.okX {x qual:Str} {st:Stmt} {f:Addr} {fd:FuncData} {N ps:List Str} {k:Nat} {sp:Sp} (F:Fun K x qual st f fd) (S:FnScope N ps (defScope st)) (len:∀ vs H Q E,sp vs H Q E→vs.length=ps.length)
  (hbody:∀ (A:Around) (outer:List Env) (s:Shared) (H:Hp) (vs:List V) (Q:VK) (E:XK),Room k (A.deeper (envOfC qual (defScope st) s.heap.objs.size f fd.code))→sp vs H Q E→
   ∃ t,PSs (cxOf (CXE P w) P w K mg base N qual (defScope st) f fd.code A outer s H E) (defBody st) t∧t { nx:=fun _ H'=>Q .non H',rt:=Q } (start N vs) H):FnOk P w K mg base (CXE P w) (k+1) f fd ps sp:=by
 obtain ⟨oc,od,kV,doc,pm,an,cdv,ct,osl,rfl,lk,hcd⟩:=F.ex
 exact fn_of lk hcd S len fun A outer s H vs Q E hr hsp=>hbody A outer s H vs Q E hr hsp
structure CalR (P:Program) (w:World) (K:PySem.W.Frag) (mg:Str→Option Value) (base:Heap) (x:Str) (k:Nat) (ps:List Str) (sp:Sp) where
 f:Addr
 fd:FuncData
 ok:FnOk P w K mg base (CXE P w) k f fd ps sp
 at_:mg x=some (.ref f)
 kp:PySem.W.keepIn K (.ref f)=true
 b:Binds K fd ps []
end
theorem pe_r {X:Cx} {E:St→XK} {x:Str} {k:Nat} {ps:List Str} {sp:Sp} {p pos:Pos} {e:Expr} {es:List Expr} {t:TA} (C:CalR X.prog X.w X.K X.mg X.base x k ps sp) (hr:Room k X.A) (hx:RX X E) (ha:PA X (e :: es) t) (hg:Gl X x:=by rfl)
  (hdb:(x==("__debug__" : Str))=false:=by decide) (he:starEach (e :: es) X.env=(false,eval e X.env) :: starEach es X.env:=by rfl) (hpl:(backTo pos (starEach es X.env)).any (·.1)=false:=by rfl) :
  PE X (.Call (.Name x p) (e :: es) [] pos) (tCallX sp E t):=pe_callX C.ok hr hg C.at_ C.kp C.b hx ha hdb he hpl
end L2
namespace L2
open PySem PySem.Spec PyProof.Rows
section
variable {X:Cx} {es:List Expr} {n:Nat} {tp:Pos}
end
end L2
namespace L2
open PySem PySem.Spec PyProof.Rows
section
variable {P:Program} {w:World} {A:Around} {E:Value→Shared→Prop} {s:Shared} {r t:Addr} {items:Array Value}
open AutoSeq1 (wpAny_loadPart') in
end
section
variable {X:Cx}
end
end L2
namespace L2
open PySem PySem.Spec PyProof.Rows
theorem vals_refs:∀ {cs:List Addr} {us:List Value},Vals (cs.map V.ref) us→us=cs.map Value.ref
 | [],_,.nil=>rfl
 | _ :: _,_,.cons r t=>by
  rw [vals_refs t]
  cases r
  rfl
section
variable {X:Cx}
inductive rIsRTI (K:PySem.W.Frag) (xs:List V) (H:Hp) (Q:VK):Prop
 | mk (a C:Addr) (fs:List (Str × V)) (tp:Addr) (cs:List Addr) (b:Bool) (h1:xs=[.ref a,.ref tp]) (h2:ExnR H a C fs) (h3:ExcF K C) (h4:H tp=some (.tup (cs.map V.ref))) (h5:PySem.W.kitAny K (.ref C) (cs.map Value.ref)=some b) (h6:Q (.bl b) H):rIsRTI K xs H Q
def rIsRT (K:PySem.W.Frag):List V→Hp→VK→Prop:=fun xs H Q=>rIsRTI K xs H Q
theorem call_isRT {K:PySem.W.Frag} (hK:X.K=K:=by rfl):CallR X (.builtin "isinstance") (rIsRT K):=by
 subst hK
 intro pins s σ H xs us Q I r h
 obtain ⟨a,C,fs,tp,cs,b,rfl,ex,cf,htp,e,q⟩:=h
 obtain ⟨u1,u2,rfl,r1,r2⟩:=Vals.two r
 obtain rfl:u1=Value.ref a:=r1
 obtain rfl:u2=Value.ref tp:=r2
 obtain ⟨_,its,rv,p⟩:=(show ObjOk X.prog X.w H s.heap tp (.tup (cs.map V.ref)) from I.hok tp _ htp)
 obtain rfl:=vals_refs rv
 obtain ⟨⟨oc,od,odt,osl⟩,g1,g2,k,g3⟩:=p
 cases (show oc=Value.type "tuple" from g2)
 cases (show odt=Data.seq _ k from g3)
 obtain ⟨ox,od',J,_⟩:=ex.inst I
 exact PySem.W.kia_tup (kitx_exc cf) I.kIn J g1 e (fun z=>nomatch z) fun tk=>⟨.bl b,H,I.tok _,rfl,q⟩
end
theorem pe_c0 {X:Cx} {x:Str} {k:Nat} {sp:Sp} {p pos:Pos} (C:Cal X.prog X.w X.K X.mg X.base x k [] sp) (hr:Room k X.A) (hg:Gl X x:=by rfl) (hdb:(x==("__debug__" : Str))=false:=by decide):PE X (.Call (.Name x p) [] [] pos) (fun _ H Q=>sp [] H Q E0):=
 fun pins s σ H Q I h=>pe_call0 C.ok hr hg C.at_ C.kp C.b .nil pass0 hdb pins s σ H Q I h
end L2
namespace L2
open PySem PySem.Spec PyProof.Rows
inductive AllS:List Expr→List Str→Prop where
 | nil:AllS [] []
 | cons {x:Str} {j} {pos:Pos} {es:List Expr} {zs:List Str} (h:AllS es zs):AllS (.Constant (.str x) j pos :: es) (x :: zs)
def tConsts (zs:List Str):TA:=fun _ H Q=>Q (zs.map V.str) H
theorem pa_consts {X:Cx} {es:List Expr} {zs:List Str} (h:AllS es zs):PA X es (tConsts zs):=by
 induction h with
 | nil=>exact pa_nil
 | cons _ ih=>exact pa_cons pe_str ih rfl
end L2
namespace My
open PySem PySem.Spec PyProof.Rows L2
def top (i:Nat):Stmt:=PySem.Challenge.pw_spreadwords_k33_texts_of_no_wish.main.body.getD i (.Pass ⟨0,0,0,0⟩)
abbrev s_is_word:Stmt:=top 8
abbrev s_inner_count:Stmt:=top 11
abbrev s_wish_from:Stmt:=top 12
abbrev s_read_word:Stmt:=top 15
abbrev s_read_head:Stmt:=top 16
abbrev s_read_wish:Stmt:=top 17
abbrev s_law_flow:Stmt:=top 19
abbrev s_law_pick:Stmt:=top 20
abbrev s_law_letters:Stmt:=top 21
abbrev s_law_wish:Stmt:=top 22
abbrev s_law_any_wish:Stmt:=top 23
abbrev s_law_some_letters:Stmt:=top 24
abbrev s_law_word_text:Stmt:=top 25
abbrev s_law_wish_words:Stmt:=top 26
abbrev s_law_signs:Stmt:=top 27
abbrev s_law_other_word:Stmt:=top 28
abbrev s_law_spoilt:Stmt:=top 29
abbrev s_law_is_word:Stmt:=top 30
abbrev s_law_read:Stmt:=top 31
abbrev s_law_told:Stmt:=top 32
abbrev s_law_right:Stmt:=top 33
abbrev s_law:Stmt:=top 34
theorem sc_is_word:FnScope ["text"] ["text"] (defScope s_is_word):=⟨rfl,rfl,rfl,by decide +kernel,rfl,by decide +kernel,by decide +kernel⟩
theorem sc_inner_count:FnScope ["name"] ["name"] (defScope s_inner_count):=⟨rfl,rfl,rfl,by decide +kernel,rfl,by decide +kernel,by decide +kernel⟩
theorem sc_wish_from:FnScope ["heads","waiting","head","inner","number"] ["heads"] (defScope s_wish_from):=⟨rfl,rfl,rfl,by decide +kernel,rfl,by decide +kernel,by decide +kernel⟩
theorem sc_read_word:FnScope ["words","at"] ["words","at"] (defScope s_read_word):=⟨rfl,rfl,rfl,by decide +kernel,rfl,by decide +kernel,by decide +kernel⟩
theorem sc_read_head:FnScope ["words","at","name","word"] ["words","at"] (defScope s_read_head):=⟨rfl,rfl,rfl,by decide +kernel,rfl,by decide +kernel,by decide +kernel⟩
theorem sc_read_wish:FnScope ["text","words","heads","at","lacking","head"] ["text"] (defScope s_read_wish):=⟨rfl,rfl,rfl,by decide +kernel,rfl,by decide +kernel,by decide +kernel⟩
theorem sc_law_flow:FnScope ["_law_script"] ["_law_script"] (defScope s_law_flow):=⟨rfl,rfl,rfl,by decide +kernel,rfl,by decide +kernel,by decide +kernel⟩
theorem sc_law_pick:FnScope ["_law_flow_here","_law_many","_law_cell","_law_digit"] ["_law_flow_here","_law_many"] (defScope s_law_pick):=⟨rfl,rfl,rfl,by decide +kernel,rfl,by decide +kernel,by decide +kernel⟩
theorem sc_law_letters:FnScope ["_law_flow_here","_law_many","_law_left"] ["_law_flow_here","_law_many"] (defScope s_law_letters):=⟨rfl,rfl,rfl,by decide +kernel,rfl,by decide +kernel,by decide +kernel⟩
theorem sc_law_wish:FnScope ["_law_flow_here","_law_letters_here","_law_room","_law_deep","_law_most","_law_way","_law_drawn","_law_first","_law_one","_law_other"] ["_law_flow_here","_law_letters_here","_law_room","_law_deep","_law_most"] (defScope s_law_wish):=⟨rfl,rfl,rfl,by decide +kernel,rfl,by decide +kernel,by decide +kernel⟩
theorem sc_law_any_wish:FnScope ["_law_flow_here","_law_letters_here"] ["_law_flow_here","_law_letters_here"] (defScope s_law_any_wish):=⟨rfl,rfl,rfl,by decide +kernel,rfl,by decide +kernel,by decide +kernel⟩
theorem sc_law_some_letters:FnScope ["_law_flow_here"] ["_law_flow_here"] (defScope s_law_some_letters):=⟨rfl,rfl,rfl,by decide +kernel,rfl,by decide +kernel,by decide +kernel⟩
theorem sc_law_word_text:FnScope ["_law_word"] ["_law_word"] (defScope s_law_word_text):=⟨rfl,rfl,rfl,by decide +kernel,rfl,by decide +kernel,by decide +kernel⟩
theorem sc_law_wish_words:FnScope ["_law_wish_here","_law_found","_law_part"] ["_law_wish_here"] (defScope s_law_wish_words):=⟨rfl,rfl,rfl,by decide +kernel,rfl,by decide +kernel,by decide +kernel⟩
theorem sc_law_signs:FnScope ["_law_signs_here"] [] (defScope s_law_signs):=⟨rfl,rfl,rfl,by decide +kernel,rfl,by decide +kernel,by decide +kernel⟩
theorem sc_law_other_word:FnScope ["_law_flow_here","_law_some"] ["_law_flow_here"] (defScope s_law_other_word):=⟨rfl,rfl,rfl,by decide +kernel,rfl,by decide +kernel,by decide +kernel⟩
theorem sc_law_spoilt:FnScope ["_law_flow_here","_law_words","_law_drawn","_law_at","_law_word","_law_spot","_law_sign","_law_bent","_law_other","_law_found"] ["_law_flow_here","_law_words"] (defScope s_law_spoilt):=⟨rfl,rfl,rfl,by decide +kernel,rfl,by decide +kernel,by decide +kernel⟩
theorem sc_law_is_word:FnScope ["_law_word"] ["_law_word"] (defScope s_law_is_word):=⟨rfl,rfl,rfl,by decide +kernel,rfl,by decide +kernel,by decide +kernel⟩
theorem sc_law_read:FnScope ["_law_words","_law_due","_law_has","_law_at","_law_word"] ["_law_words"] (defScope s_law_read):=⟨rfl,rfl,rfl,by decide +kernel,rfl,by decide +kernel,by decide +kernel⟩
theorem sc_law_told:FnScope ["_law_text","_law_caught","_law_found","e"] ["_law_text"] (defScope s_law_told):=⟨rfl,rfl,rfl,by decide +kernel,rfl,by decide +kernel,by decide +kernel⟩
theorem sc_law_right:FnScope ["_law_text"] ["_law_text"] (defScope s_law_right):=⟨rfl,rfl,rfl,by decide +kernel,rfl,by decide +kernel,by decide +kernel⟩
theorem sc_law:FnScope ["_law_script","_law_flow_here","_law_times","_law_words","_law_good","_law_k","_law_spoilt_here","_law_turn"] ["_law_script"] (defScope s_law):=⟨rfl,rfl,rfl,by decide +kernel,rfl,by decide +kernel,by decide +kernel⟩
abbrev s_NoText_init:Stmt:=(clsBody (top 2)).getD 0 (.Pass ⟨0,0,0,0⟩)
theorem sc_NoText_init:FnScope ["self","at"] ["self","at"] (defScope s_NoText_init):=⟨rfl,rfl,rfl,by decide +kernel,rfl,by decide +kernel,by decide +kernel⟩
theorem nd_law_letters_0:(inNm ["_law_k"] ["_law_flow_here","_law_many","_law_left"] [0,2]).Nodup:=by decide +kernel
theorem nd_is_word_0:(inNm ["sign"] ["text"] []).Nodup:=by decide +kernel
theorem nd_law_wish_0:(inNm ["_law_k"] ["_law_flow_here","_law_letters_here","_law_room","_law_deep","_law_most","_law_way","_law_drawn","_law_first","_law_one","_law_other"] [0,1]).Nodup:=by decide +kernel
theorem nd_law_is_word_0:(inNm ["_law_sign"] ["_law_word"] []).Nodup:=by decide +kernel
theorem nd_law_0:(inNm ["_law_text"] ["_law_script","_law_flow_here","_law_times","_law_words","_law_good","_law_k","_law_spoilt_here","_law_turn"] []).Nodup:=by decide +kernel
structure Blt (mg:Str→Option Value):Prop where
 ValueError:mg "ValueError" = none
 all:mg "all" = none
 bool:mg "bool" = none
 enumerate:mg "enumerate" = none
 int:mg "int" = none
 isinstance:mg "isinstance" = none
 len:mg "len" = none
 list:mg "list" = none
 range:mg "range" = none
 reversed:mg "reversed" = none
 sorted:mg "sorted" = none
 tuple:mg "tuple" = none
inductive spLawI (K:PySem.W.Frag) (vs:List V) (H:Hp) (Q:VK):Prop
 | mk (a:Addr) (ns:List Int) (h1:vs=[.ref a]) (h2:SqL K H a (ns.map V.int)) (h3:ns.length≤63) (h4:∀ H',Q (.bl true) H'):spLawI K vs H Q
def spLaw (K:PySem.W.Frag):Sp:=fun vs H Q u3_=>spLawI K vs H Q
section
variable {P:Program} {w:World} {K:PySem.W.Frag} {mg:Str→Option Value} {base:Heap}
theorem rd_ix {K:PySem.W.Frag} {σ:L2.St} {H:Hp} {Q:VK} {p:Addr} {xs:List V} {i:Int} {v:V} {j:Nat} (h0:σ[j]? = some (some (.ref p))) (hp:H p=some (.lst xs)) (hv:atI xs i=some v) (q:Q v H):tOp (rIxL K) (tVar j) (tC (.int i)) σ H Q:=
 ⟨_,h0,p,xs,i,v,rfl,rfl,SqL.of hp,hv,q⟩
theorem ok_law_flow {f:Addr} {fd:FuncData} (F:Fun K "_law_flow" "_law_flow" s_law_flow f fd) (Z:Blt mg):FnOk P w K mg base CX0 1 f fd ["_law_script"] (spFlow K):=by
 refine F.ok sc_law_flow (fun vs H Q E h=>?_) (fun cdv A outer s H vs Q E hr h=>?_)
 ·obtain ⟨a,ns,rfl,_⟩:=h
  rfl
 obtain ⟨a,ns,rfl,hS,k⟩:=h
 refine ⟨_,(pss_one (ps_ret (pe_lst (pa_cons (pe_callTy (call_listK (K:=K)) (by rfl) Z.list bt_list (pa_cons (pv 0) pa_nil)) (pa_cons pe_int (pa_cons pe_int (pa_cons pe_int (pa_cons pe_int pa_nil)))))))),?_⟩
 refine ⟨_,rfl,a,_,rfl,.inl hS,fun l hl=>?_⟩
 refine ⟨(by show 5≤sizeLine; decide),fun p hp=>?_⟩
 have e1:Same H (upd H l (.lst (ns.map V.int))):=same_new hl _
 refine k p l _ (e1.free hp) (e1.trans (same_new hp _)) ⟨⟨_,upd_same,0,0,1,0,rfl,by decide,by decide,by decide,by decide,by decide⟩,ns,?_⟩
 rw [upd_ne (ne_of_none upd_same hp)]
 exact upd_same
theorem pick_last (c:Int) (m:Int) (hm:0 < m):0≤c % m∧c % m < m:=⟨Int.emod_nonneg _ (by omega),Int.emod_lt_of_pos _ hm⟩
theorem atI_ints {ns:List Int} {a:Int} (h0:0≤a) (h1:a < ((ns.map V.int).length:Int)):∃ z,atI (ns.map V.int) a=some (.int z):=by
 have hk:a.toNat < ns.length:=by
  rw [List.length_map] at h1
  omega
 have q:atI (ns.map V.int) ((a.toNat:Nat):Int)=some (.int ns[a.toNat]):=atI_nat (by rw [List.getElem?_map,List.getElem?_eq_getElem hk]; rfl)
 rw [show ((a.toNat:Nat):Int)=a by omega] at q
 exact ⟨_,q⟩
theorem ok_law_pick {f:Addr} {fd:FuncData} (F:Fun K "_law_pick" "_law_pick" s_law_pick f fd) (Z:Blt mg):FnOk P w K mg base CX0 1 f fd ["_law_flow_here","_law_many"] spPick:=by
 refine F.ok sc_law_pick (fun vs H Q E h=>?_) (fun cdv A outer s H vs Q E hr h=>?_)
 ·obtain ⟨p,sc,m,rfl,_⟩:=h
  rfl
 obtain ⟨p,sc,m,rfl,hm0,hm1,FA,k⟩:=h
 obtain ⟨xs,hp,a,b,c,d,rfl,ha,hb,hc0,hc1,hd⟩:=FA.here
 obtain ⟨ns,hs⟩:=FA.cells
 refine ⟨_,(pss_cut (ps_if (PW.pt (pw_and (pt_cmpR op_eq (pe_ix (ix_listK (K:=K)) (pv 0) pe_int (fun _ _=>rfl)) pe_int (nomark _)) (pw_and1 (pt_cmpR op_lt (pe_ix (ix_listK (K:=K)) (pv 0) pe_int (fun _ _=>rfl)) (pe_callB (call_lenK (K:=K)) (by rfl) Z.len bt_len (pa_cons (pe_ix (ix_listK (K:=K)) (pv 0) pe_int (fun _ _=>rfl)) pa_nil)) (nomark _))))) 
    (pss_cons (ps_set (i:=2) sc_law_pick.nd (by rfl) (Or.inl (by rfl)) (pe_ix (ix_listK (K:=K)) (pe_ix (ix_listK (K:=K)) (pv 0) pe_int (fun _ _=>rfl)) (pe_ix (ix_listK (K:=K)) (pv 0) pe_int (fun _ _=>rfl)) (fun _ _=>rfl))) 
    (pss_cons (ps_asg (pe_op op_add (pe_ix (ix_listK (K:=K)) (pv 0) pe_int (fun _ _=>rfl)) pe_int) (pg_sub (pv 0) pe_int set_list)) 
    (pss_one (ps_if (pt_cmpR op_ge (pv 2) (pe_op op_pow pe_int pe_int) (nomark _)) 
     (pss_one (ps_asg (pv 2) (pg_sub (pv 0) pe_int set_list))) 
     (pss_one (ps_asg (pe_op op_mod (pe_op op_add (pe_op op_add (pe_op op_mul (pe_ix (ix_listK (K:=K)) (pv 0) pe_int (fun _ _=>rfl)) pe_int) (pe_op op_mod (pv 2) pe_int)) pe_int) pe_int) (pg_sub (pv 0) pe_int set_list))))))) pss_nil) 
   (pss_cons (ps_if (pt_cmpR op_gt (pe_ix (ix_listK (K:=K)) (pv 0) pe_int (fun _ _=>rfl)) pe_int (nomark _)) 
    (pss_cons (ps_set (i:=3) sc_law_pick.nd (by rfl) (Or.inl (by rfl)) (pe_op op_mod (pe_ix (ix_listK (K:=K)) (pv 0) pe_int (fun _ _=>rfl)) (pv 1))) 
    (pss_cons (ps_asg (pe_op op_fdiv (pe_ix (ix_listK (K:=K)) (pv 0) pe_int (fun _ _=>rfl)) (pv 1)) (pg_sub (pv 0) pe_int set_list)) 
    (pss_one (ps_ret (pv 3))))) pss_nil) 
   (pss_cons (ps_asg (pe_op op_add (pe_ix (ix_listK (K:=K)) (pv 0) pe_int (fun _ _=>rfl)) pe_int) (pg_sub (pv 0) pe_int set_list)) 
   (pss_cons (ps_asg (pe_op op_mod (pe_op op_add (pe_op op_add (pe_op op_mul (pe_ix (ix_listK (K:=K)) (pv 0) pe_int (fun _ _=>rfl)) pe_int) pe_int) (pe_ix (ix_listK (K:=K)) (pv 0) pe_int (fun _ _=>rfl))) pe_int) (pg_sub (pv 0) pe_int set_list)) 
   (pss_one (ps_ret (pe_op op_mod (pe_op op_fdiv (pe_op op_mod (pe_op op_mul (pe_op op_add (pe_op op_mod (pe_ix (ix_listK (K:=K)) (pv 0) pe_int (fun _ _=>rfl)) pe_int) pe_int) (pe_op op_add (pe_op op_fdiv (pe_ix (ix_listK (K:=K)) (pv 0) pe_int (fun _ _=>rfl)) pe_int) pe_int)) pe_int) pe_int) (pv 1)))))))),?_⟩
 refine (let zz0:TS:=_; let zz1:TS:=tSeq _ zz0; let zz2:TS:=tSeq _ zz1; let zz3:TS:=_; let zz4:TS:=tSeq _ zz3; let zz5:TS:=tSeq _ zz4; let zz6:TS:=tSeq (tIfS _ zz5 _) zz2; let zz7:TS:=_; let zz8:TS:=tSeq _ zz7; let zz9:TS:=tSeq _ zz8; (?_:tCut (tIfS _ zz9 _) zz6 _ _ _))
 refine ⟨fun σ' H'=>∃ cv xs',σ'=[some (V.ref p),some (V.int m),cv,none]∧H' p=some (.lst xs')∧(∀ o,upd H' p o=upd H p o)∧FlowXs sc xs',?_,?_⟩
 ·have stay:∃ cv xs',[some (V.ref p),some (V.int m),none,none]=[some (V.ref p),some (V.int m),cv,none]∧H p=some (.lst xs')∧(∀ o,upd H p o=upd H p o)∧FlowXs sc xs':=⟨_,_,rfl,hp,fun _=>rfl,a,b,c,d,rfl,ha,hb,hc0,hc1,hd⟩
  refine rd_ix rfl hp (atI_nat (j:=2) rfl) ?_
  refine ⟨rfl,_,rfl,?_⟩
  refine ite2 (fun _=>?_) (fun _=>stay)
  refine rd_ix rfl hp (atI_nat (j:=1) rfl) ?_
  refine rd_ix rfl hp (atI_nat (j:=0) rfl) ?_
  refine ⟨sc,_,rfl,.inl (SqL.of hs),_,_,rfl,rfl,_,rfl,?_⟩
  refine ite2 (fun lt=>?_) (fun _=>stay)
  obtain ⟨z,hz⟩:=atI_ints (ns:=ns) ha (of_decide_eq_true lt)
  refine rd_ix rfl hp (atI_nat (j:=0) rfl) ?_
  refine rd_ix rfl hp (atI_nat (j:=1) rfl) ?_
  refine ⟨sc,_,_,_,rfl,rfl,SqL.of hs,hz,?_⟩
  refine rd_ix rfl hp (atI_nat (j:=1) rfl) ?_
  refine ⟨_,_,rfl,rfl,_,rfl,p,_,_,1,rfl,rfl,hp,rfl,?_⟩
  have hp1:upd H p (.lst [.ref sc,.int (a+1),.int b,.int c,.int d]) p=some (.lst [.ref sc,.int (a+1),.int b,.int c,.int d]):=upd_same
  refine ⟨_,rfl,_,_,rfl,rfl,⟨by decide,by decide,by decide⟩,_,_,rfl,rfl,_,rfl,?_⟩
  refine ite2 (fun big=>?_) (fun _=>?_)
  ·have big':(10:Int) ^ 18≤z:=of_decide_eq_true big
   refine ⟨_,rfl,_,rfl,p,_,_,2,rfl,rfl,hp1,rfl,?_⟩
   exact ⟨_,_,rfl,upd_same,fun o=>by rw [upd_upd,upd_upd],a+1,z,c,d,rfl,by omega,by omega,hc0,hc1,hd⟩
  ·refine rd_ix rfl hp1 (atI_nat (j:=3) rfl) ?_
   refine ⟨_,_,rfl,rfl,.inl ⟨by omega,by omega⟩,?_⟩
   refine ⟨_,rfl,_,_,rfl,rfl,(by show (0:Int) < 1000003; decide),_,_,rfl,rfl,_,_,rfl,rfl,_,_,rfl,rfl,(by show (0:Int) < 2147483647; decide),?_⟩
   refine ⟨_,rfl,p,_,_,3,rfl,rfl,hp1,rfl,?_⟩
   have q:=pick_last (c * 40013+z % 1000003+1) 2147483647 (by decide)
   exact ⟨_,_,rfl,upd_same,fun o=>by rw [upd_upd,upd_upd],a+1,b,_,d,rfl,by omega,hb,q.1,q.2,hd⟩
 ·rintro σ' H' ⟨cv,xs',rfl,hp',hu,a',b',c',d',rfl,ha',hb',hc0',hc1',hd'⟩
  refine rd_ix rfl hp' (atI_nat (j:=2) rfl) ?_
  refine ⟨_,_,rfl,rfl,_,rfl,?_⟩
  refine ite2 (fun pos=>?_) (fun _=>?_)
  ·have pos':0 < b':=of_decide_eq_true pos
   refine rd_ix rfl hp' (atI_nat (j:=2) rfl) ?_
   refine ⟨_,rfl,_,_,rfl,rfl,hm0,?_⟩
   refine rd_ix rfl hp' (atI_nat (j:=2) rfl) ?_
   refine ⟨_,rfl,_,_,rfl,rfl,⟨hm0,hm1⟩,_,rfl,p,_,_,2,rfl,rfl,hp',rfl,?_⟩
   refine ⟨_,rfl,?_⟩
   have q:=pick_last b' m hm0
   have e:=k (b' % m) [.ref sc,.int a',.int (b' / m),.int c',.int d'] q.1 q.2 ⟨a',b' / m,c',d',rfl,ha',Int.ediv_nonneg hb' (by omega),hc0',hc1',hd'⟩
   rw [← hu] at e
   exact e
  ·refine rd_ix rfl hp' (atI_nat (j:=4) rfl) ?_
   refine ⟨_,_,rfl,rfl,_,rfl,p,_,_,4,rfl,rfl,hp',rfl,?_⟩
   have hp2:upd H' p (.lst [.ref sc,.int a',.int b',.int c',.int (d'+1)]) p=some (.lst [.ref sc,.int a',.int b',.int c',.int (d'+1)]):=upd_same
   refine rd_ix rfl hp2 (atI_nat (j:=3) rfl) ?_
   refine ⟨_,_,rfl,rfl,.inl ⟨by omega,by omega⟩,_,_,rfl,rfl,?_⟩
   refine rd_ix rfl hp2 (atI_nat (j:=4) rfl) ?_
   refine ⟨_,_,rfl,rfl,_,_,rfl,rfl,(by show (0:Int) < 2147483647; decide),?_⟩
   refine ⟨_,rfl,p,_,_,3,rfl,rfl,hp2,rfl,?_⟩
   have q:=pick_last (c' * 48271+12820163+(d'+1)) 2147483647 (by decide)
   have hp3:∀ H3:Hp,upd H3 p (.lst [.ref sc,.int a',.int b',.int ((c' * 48271+12820163+(d'+1)) % 2147483647),.int (d'+1)]) p=some (.lst [.ref sc,.int a',.int b',.int ((c' * 48271+12820163+(d'+1)) % 2147483647),.int (d'+1)]):=fun _=>upd_same
   refine rd_ix rfl (hp3 _) (atI_nat (j:=3) rfl) ?_
   refine ⟨_,_,rfl,rfl,(by show (0:Int) < 65521; decide),_,_,rfl,rfl,?_⟩
   refine rd_ix rfl (hp3 _) (atI_nat (j:=3) rfl) ?_
   have q2:=pick_last ((c' * 48271+12820163+(d'+1)) % 2147483647) 65521 (by decide)
   refine ⟨_,_,rfl,rfl,⟨by decide,by decide⟩,_,_,rfl,rfl,_,_,rfl,rfl,.inl ⟨by omega,by omega⟩,_,_,rfl,rfl,(by show (0:Int) < 1000003; decide),_,_,rfl,rfl,⟨by decide,by decide⟩,_,rfl,_,_,rfl,rfl,hm0,?_⟩
   have q3:=pick_last (((c' * 48271+12820163+(d'+1)) % 2147483647 % 65521+1) * ((c' * 48271+12820163+(d'+1)) % 2147483647 / 65521+7919) % 1000003 / 7) m hm0
   have e:=k _ [.ref sc,.int a',.int b',.int ((c' * 48271+12820163+(d'+1)) % 2147483647),.int (d'+1)] q3.1 q3.2 ⟨a',b',_,d'+1,rfl,ha',hb',q.1,q.2,by omega⟩
   rw [← hu,← upd_upd (H:=H') (o:=.lst [.ref sc,.int a',.int b',.int c',.int (d'+1)])] at e
   exact e
def one (c:Nat):Str:=⟨#[c]⟩
theorem strs_ones {ys':List Str} {cs:List Nat} (h:ys'.Perm (cs.map one)):∃ cs':List Nat,cs'.Perm cs∧ys'=cs'.map one:=by
 have e:∀ y∈ys',y=one (y.cps.toList.headD 0):=fun y hy=>by
  obtain ⟨c,_,rfl⟩:=List.mem_map.mp (h.mem_iff.mp hy)
  rfl
 have e2:ys'=(ys'.map fun y=>y.cps.toList.headD 0).map one:=by
  rw [List.map_map]
  have:∀ (l:List Str),(∀ y∈l,y=one (y.cps.toList.headD 0))→l=l.map (one ∘ fun y=>y.cps.toList.headD 0):=by
   intro l
   induction l with
   | nil=>intro _; rfl
   | cons y r ih=>
    intro hl
    rw [List.map_cons,← ih fun z hz=>hl z (List.mem_cons_of_mem _ hz)]
    exact congrArg (· :: r) (hl y List.mem_cons_self)
  exact this ys' e
 refine ⟨_,?_,e2⟩
 have p:=h.map fun y:Str=>y.cps.toList.headD 0
 rw [List.map_map] at p
 have:(fun y:Str=>y.cps.toList.headD 0) ∘ one=id:=rfl
 rw [this,List.map_id] at p
 exact p
theorem lt_cps_one (a b:Nat):ltCps (one a).cps.toList (one b).cps.toList=decide (a < b):=by
 rw [ltCps_eq]
 exact lt_one a b
theorem rising_ones:∀ (p:Nat) (cs:List Nat),risingS (one p) (cs.map one)=true→∀ c∈cs,p≤c
 | _,[],_,c,hc=>by cases hc
 | p,x :: r,h,c,hc=>by
  have h':(!ltCps (one x).cps.toList (one p).cps.toList && risingS (one x) (r.map one))=true:=h
  rw [Bool.and_eq_true,lt_cps_one] at h'
  have h1:p≤x:=by
   have:=h'.1
   simp at this
   exact this
  rcases List.mem_cons.mp hc with e | e
  ·subst e; exact h1
  ·exact Nat.le_trans h1 (rising_ones x r h'.2 c e)
theorem sorted_ones:∀ (cs:List Nat),sortedS (cs.map one)=true→cs.Pairwise (·≤·)
 | [],_=>.nil
 | p :: r,h=>by
  have h':risingS (one p) (r.map one)=true:=h
  refine List.Pairwise.cons (rising_ones p r h') (sorted_ones r ?_)
  cases r with
  | nil=>rfl
  | cons x r=>
   have h2:(!ltCps (one x).cps.toList (one p).cps.toList && risingS (one x) (r.map one))=true:=h'
   rw [Bool.and_eq_true] at h2
   exact h2.2
theorem lt_of_le_nodup:∀ {cs:List Nat},cs.Pairwise (·≤·)→cs.Nodup→cs.Pairwise (· < ·)
 | [],_,_=>.nil
 | p :: r,h,n=>by
  cases h with
  | cons h1 h2=>
   rw [List.nodup_cons] at n
   refine List.Pairwise.cons (fun c hc=>?_) (lt_of_le_nodup h2 n.2)
   have:=h1 c hc
   have:p≠c:=fun e=>n.1 (e▸hc)
   omega
theorem erase_perm {α:Type}:∀ {l:List α} {n:Nat} {v:α},l[n]? = some v→(v :: l.eraseIdx n).Perm l
 | [],n,v,h=>by simp at h
 | x :: r,0,v,h=>by
  have e:x=v:=by simpa using h
  subst e
  exact List.Perm.refl _
 | x :: r,n+1,v,h=>by
  have ih:=erase_perm (l:=r) (n:=n) (v:=v) (by simpa using h)
  rw [List.eraseIdx_cons_succ]
  exact (List.Perm.swap x v _).trans (List.Perm.cons x ih)
theorem erase_map {α β:Type} (f:α→β):∀ (l:List α) (i:Nat),(l.map f).eraseIdx i=(l.eraseIdx i).map f
 | [],_=>rfl
 | _ :: _,0=>rfl
 | x :: r,i+1=>by
  rw [List.map_cons,List.eraseIdx_cons_succ,List.eraseIdx_cons_succ,List.map_cons,erase_map f r i]
theorem flat_ones (cs:List Nat):((cs.map one).map fun y=>y.cps.toList).flatten=cs:=by
 induction cs with
 | nil=>rfl
 | cons c r ih=>rw [List.map_cons,List.map_cons,List.flatten_cons,ih]; rfl
theorem sum_ones (cs:List Nat):((cs.map one).map (·.length)).sum=cs.length:=by
 induction cs with
 | nil=>rfl
 | cons c r ih=>rw [List.map_cons,List.map_cons,List.sum_cons,ih,List.length_cons,Nat.add_comm]; rfl
def abc:List Nat:=(List.range 26).map (· + 97)
theorem abc_is:(Str.ofString "abcdefghijklmnopqrstuvwxyz").cps.toList=abc:=by decide +kernel
theorem abc_nodup:abc.Nodup:=by decide +kernel
theorem abc_mem {c:Nat} (h:c∈abc):97≤c∧c≤122:=by
 unfold abc at h
 obtain ⟨i,hi,rfl⟩:=List.mem_map.mp h
 have:=List.mem_range.mp hi
 omega
theorem oneS_map (cs:List Nat):cs.map oneS=(cs.map one).map V.str:=by
 rw [List.map_map]
 rfl
theorem ok_law_letters {f:Addr} {fd:FuncData} (F:Fun K "_law_letters" "_law_letters" s_law_letters f fd) (Z:Blt mg) (C_law_pick:Cal P w K mg base "_law_pick" 1 ["_law_flow_here","_law_many"] spPick) :
  FnOk P w K mg base CX0 2 f fd ["_law_flow_here","_law_many"] spLetters:=by
 refine F.ok sc_law_letters (fun vs H Q E h=>?_) (fun cdv A outer s H vs Q E hr h=>?_)
 ·obtain ⟨p,sc,m,rfl,_⟩:=h
  rfl
 obtain ⟨p,sc,m,rfl,hm0,hm1,FA,k⟩:=h
 refine ⟨_,(pss_cons (ps_set (i:=2) sc_law_letters.nd (by rfl) (Or.inr (by rfl)) (pe_callTy (call_list_text (by rfl)) (by rfl) Z.list bt_list (pa_cons pe_str pa_nil))) 
   (pss_one (ps_ret (pe_bmK (K:=K) PySem.F.plainAttrs_str PySem.F.slot_str_join PySem.F.type_str_join (mt_joinK (K:=K)) pe_str (pa_cons (pe_callB (call_sortK (K:=K)) (by rfl) Z.sorted bt_sorted (pa_cons (pe_comp (sc:=defScope s_law_letters) (Nm:=["_law_flow_here","_law_many","_law_left"]) (own:=["_law_k"]) (fr:=[0,2]) ⟨rfl,by decide +kernel,by decide +kernel,by decide +kernel,by decide +kernel⟩ (by rfl) (gfr_name (by decide)) (pi_range1 (by rfl) Z.range (pa_cons (pv 1) pa_nil)) (fun d=>(pg_name (i:=0) nd_law_letters_0 (by rfl) (Or.inl (by rfl)))) (fun d=>pts_nil) (fun d=>(pe_bmK (K:=K) PySem.F.plainAttrs_list PySem.F.slot_list_pop PySem.F.type_list_pop mt_popAt (pv 2) (pa_cons (pe_c C_law_pick (hr.mono (by decide)) (pa_cons (pv 1) (pa_cons (pe_callB (call_lenK (K:=K)) (by rfl) Z.len bt_len (pa_cons (pv 2) pa_nil)) pa_nil))) pa_nil)))) pa_nil)) pa_nil))))),?_⟩
 refine (let zz0:TS:=_; (?_:tSeq _ zz0 _ _ _))
 refine ⟨_,rfl,(by decide +kernel),fun l hl=>?_⟩
 have e1:Same H (upd H l (.lst ((Str.ofString "abcdefghijklmnopqrstuvwxyz").cps.toList.map oneS))):=same_new hl _
 have npl:p≠l:=by
  obtain ⟨xs,hp,_⟩:=FA.here
  exact ne_of_none hp hl
 refine ⟨rfl,_,rfl,_,rfl,by omega,by omega,?_⟩
 refine comp_range (lo:=0) (k:=m.toNat) (fun i acc H2=>∃ ys rem:List Nat,acc=ys.map oneS∧ys.length=i∧H2 l=some (.lst (rem.map oneS))∧(ys ++ rem).Perm abc∧FlowAt H2 p sc∧Drew H H2 p) (Nat.lt_of_le_of_lt (show m.toNat≤26 by omega) (by decide))
  ⟨[],abc,rfl,rfl,by rw [upd_same,abc_is],List.Perm.refl _,FA.same e1,Drew.same e1⟩ (fun i acc H2 ⟨ys,rem,e,hl',_⟩=>by rw [e,List.length_map,hl']; exact Nat.le_refl _) (fun i acc H2 hi hp=>?_) (fun acc H2 hp q hq=>?_)
 ·obtain ⟨ys,rem,rfl,hyl,hrem,hperm,FA2,dr⟩:=hp
  have hlen:ys.length+rem.length=26:=by
   have:=hperm.length_eq
   rw [List.length_append] at this
   exact this
  refine cyes ?_
  refine ⟨_,rfl,.inl ⟨rfl,_,SqL.of hrem⟩,_,rfl,_,rfl,l,_,rfl,.inl (SqL.of hrem),p,sc,_,rfl,?_,?_,FA2,fun r xs hr0 hr1 hxs=>?_⟩
  ·rw [List.length_map]; omega
  ·rw [List.length_map]; omega
  ·have hr1':r < (rem.length:Int):=by
    rw [List.length_map] at hr1
    exact hr1
   have hrn:r.toNat < rem.length:=by omega
   have hv:rem[r.toNat]? = some rem[r.toNat]:=List.getElem?_eq_getElem hrn
   have hl2:upd H2 p (.lst xs) l=some (.lst (rem.map oneS)):=by rw [upd_ne (Ne.symm npl)]; exact hrem
   refine ⟨l,_,r,r.toNat,oneS rem[r.toNat],rfl,rfl,hl2,by omega,by omega,?_,?_,?_⟩
   ·rw [List.length_map]
    exact seqIndex_of hr0 hr1'
   ·rw [List.getElem?_map,hv]
    rfl
   ·refine ⟨ys ++ [rem[r.toNat]],rem.eraseIdx r.toNat,by rw [List.map_append]; rfl,by rw [List.length_append,hyl]; rfl,?_,?_,?_,?_⟩
    ·rw [upd_same,erase_map]
    ·rw [List.append_assoc]
     exact (List.Perm.append_left ys (erase_perm hv)).trans hperm
    ·have FA3:=FA2.go hxs
     obtain ⟨xs',h1,h2⟩:=FA3.here
     obtain ⟨ns,h3⟩:=FA3.cells
     refine ⟨⟨xs',by rw [upd_ne npl]; exact h1,h2⟩,ns,?_⟩
     rw [upd_ne ?_]
     ·exact h3
     ·obtain ⟨ns0,h0⟩:=FA.cells
      exact ne_of_none h0 hl
    ·intro b o hb hne
     rw [upd_ne (ne_of_none hb hl),upd_ne hne]
     exact dr b o hb hne
 ·obtain ⟨ys,rem,rfl,hyl,hrem,hperm,FA2,dr⟩:=hp
  have hn:ys.Nodup:=(List.nodup_append.mp (hperm.nodup_iff.mpr abc_nodup)).1
  refine ⟨q,ys.map one,rfl,SqL.of (by rw [upd_same,oneS_map]),by rw [List.length_map]; omega,fun ys' l2 hp2 hs2 hl2=>?_⟩
  obtain ⟨cs,hc,rfl⟩:=strs_ones hp2
  have hclen:=hc.length_eq
  refine ⟨_,l2,cs.map one,rfl,rfl,SqL.of upd_same,?_,?_⟩
  ·rw [sum_ones,List.length_map]
   have:(Str.ofString "").length=0:=by decide +kernel
   rw [this]
   omega
  ·have e3:=join_nil_list (cs.map one)
   rw [flat_ones] at e3
   refine k _ _ ⟨?_,?_,fun c hcm=>?_⟩ ?_ ?_
   ·rw [e3]; omega
   ·rw [e3]
    exact lt_of_le_nodup (sorted_ones cs hs2) (hc.nodup_iff.mpr hn)
   ·rw [e3] at hcm
    exact abc_mem (hperm.mem_iff.mp (List.mem_append_left _ (hc.mem_iff.mp hcm)))
   ·exact dr.trans (Drew.trans (Drew.same (same_new hq _)) (Drew.same (same_new hl2 _)))
   ·exact (FA2.same (same_new hq _)).same (same_new hl2 _)
theorem drew_go {H0 H:Hp} {p:Addr} (d:Drew H0 H p) (o:HO):Drew H0 (upd H p o) p:=d.trans (Drew.upd o)
theorem atI_sign {l:Str} {r:Int} (h0:0≤r) (h1:r < (l.length:Int)):∃ c,c∈l.cps.toList∧atI l.cps.toList r=some c:=by
 have hk:r.toNat < l.cps.toList.length:=by
  have:l.cps.toList.length=l.length:=by simp [Str.length]
  omega
 refine ⟨l.cps.toList[r.toNat],List.getElem_mem hk,?_⟩
 have q:atI l.cps.toList ((r.toNat:Nat):Int)=some l.cps.toList[r.toNat]:=atI_nat (List.getElem?_eq_getElem hk)
 rw [show ((r.toNat:Nat):Int)=r by omega] at q
 exact q
def Drawn (H:Hp) (p sc:Addr) (l:Str) (i:Nat) (acc:List V) (H2:Hp):Prop:=∃ ys:List Nat,acc=ys.map oneS∧ys.length=i∧(∀ c∈ys,c∈l.cps.toList)∧FlowAt H2 p sc∧Drew H H2 p
theorem drawn_turn {H H2:Hp} {p sc:Addr} {l:Str} {i:Nat} {acc:List V} {σ:L2.St} {jl jf:Nat} (hl0:0 < l.length) (hl1:l.length≤1000) (hv1:σ[jl]? = some (some (.str l))) (hv2:σ[jf]? = some (some (.ref p))) (h:Drawn H p sc l i acc H2) :
  tOp rIxS (tVar jl) (tCall spPick [] E0 (tCons (tVar jf) (tCons (tCB (fun xs H Q=>∃ z,xs=[V.str z]∧z.length≤sizeLine∧Q (.int z.length) H) (tCons (tVar jl) tNil)) tNil))) σ H2 fun v H6=>Drawn H p sc l (i+1) (acc ++ [v]) H6:=by
 obtain ⟨ys,rfl,hyl,hyc,FA2,dr⟩:=h
 refine ⟨_,hv1,_,hv2,_,hv1,l,rfl,line_le hl1,p,sc,_,rfl,by omega,by omega,FA2,fun r xs h0 h1 hx=>?_⟩
 obtain ⟨c,hc,ha⟩:=atI_sign h0 h1
 exact ⟨l,r,c,rfl,rfl,line_le hl1,ha,ys ++ [c],by rw [List.map_append]; rfl,by rw [List.length_append,hyl]; rfl,fun c' h'=>(List.mem_append.mp h').elim (hyc c') fun z=>by rw [List.mem_singleton.mp z]; exact hc,FA2.go hx,drew_go dr _⟩
theorem drawn_len {H:Hp} {p sc:Addr} {l:Str}:∀ i acc H2,Drawn H p sc l i acc H2→acc.length≤i:=fun i acc H2 ⟨ys,e,hl',_⟩=>by rw [e,List.length_map,hl']; exact Nat.le_refl _
theorem join_ones_len (ys:List Nat) (h:ys.length≤1000):((ys.map one).map (·.length)).sum+(ys.map one).length * (Str.ofString "").length≤16777216:=by
 have:(Str.ofString "").length=0:=by decide +kernel
 rw [sum_ones,this]
 omega
theorem join_ones (ys:List Nat):(Txt.join (Str.ofString "") (ys.map one)).cps.toList=ys:=by
 rw [join_nil_list,flat_ones]
def wB (c:Nat):Bool:=decide (97≤c) && decide (c≤122)
def wordB (cs:List Nat):Bool:=(cs.map wB).all id
inductive spIsWordI (vs:List V) (H:Hp) (Q:VK):Prop
 | mk (z:Str) (h1:vs=[.str z]) (h2:z.length≤1000) (h3:∀ H',Same H H'→Q (.bl (wordB z.cps.toList)) H'):spIsWordI vs H Q
def spIsWord:Sp:=fun vs H Q u3_=>spIsWordI vs H Q
theorem len_list (z:Str):z.cps.toList.length=z.length:=by simp [Str.length]
theorem a_list:(Str.ofString "a").cps.toList=[97]:=by decide +kernel
theorem z_list:(Str.ofString "z").cps.toList=[122]:=by decide +kernel
theorem chain_az {σ:L2.St} {H:Hp} {c:Nat} {Q:VK} {j:Nat} (hj:σ[j]? = some (some (.str ⟨#[c]⟩))) (q:Q (.bl (wB c)) H) :
  tChain (fun x y H Q=>∃ i j,x=V.str i∧y=V.str j∧Q (.bl (!decide (j.cps.toList < i.cps.toList))) H) (fun x y H Q=>∃ i j,x=V.str i∧y=V.str j∧Q (.bl (!decide (j.cps.toList < i.cps.toList))) H) (tC (.str (Str.ofString "a"))) (tVar j) (tC (.str (Str.ofString "z"))) σ H Q:=by
 refine ⟨_,hj,_,_,rfl,rfl,_,rfl,?_⟩
 have e1:decide ((⟨#[c]⟩:Str).cps.toList < (Str.ofString "a").cps.toList)=decide (c < 97):=by rw [a_list]; exact lt_one c 97
 have e2:decide ((Str.ofString "z").cps.toList < (⟨#[c]⟩:Str).cps.toList)=decide (122 < c):=by rw [z_list]; exact lt_one 122 c
 rw [e1]
 by_cases h:c < 97
 ·have:wB c=false:=by unfold wB; rw [decide_eq_false (by omega)]; rfl
  rw [decide_eq_true h]
  rw [this] at q
  exact iteF q
 ·rw [decide_eq_false h]
  refine iteT ⟨_,_,rfl,rfl,?_⟩
  rw [e2]
  have:wB c = !decide (122 < c):=by
   unfold wB
   rw [decide_eq_true (show 97≤c by omega),Bool.true_and]
   by_cases h2:122 < c
   ·rw [decide_eq_true h2,decide_eq_false (by omega)]; rfl
   ·rw [decide_eq_false h2,decide_eq_true (by omega)]; rfl
  rw [this] at q
  exact q
def Seen (H:Hp) (f:Nat→Bool) (cs:List Nat) (i:Nat) (acc:List V) (H2:Hp):Prop:=acc=((cs.take i).map f).map V.bl∧i≤cs.length∧Same H H2
theorem seen_len {H:Hp} {f:Nat→Bool} {cs:List Nat}:∀ i acc H2,Seen H f cs i acc H2→acc.length≤i:=fun i acc H2 ⟨e,_,_⟩=>by
 rw [e,List.length_map,List.length_map,List.length_take]
 exact Nat.min_le_left _ _
theorem seen_step {H H2:Hp} {f:Nat→Bool} {cs:List Nat} {i:Nat} {acc:List V} {c:Nat} (hc:cs[i]? = some c) (h:Seen H f cs i acc H2):Seen H f cs (i+1) (acc ++ [.bl (f c)]) H2:=by
 obtain ⟨rfl,hi,e⟩:=h
 have hlt:i < cs.length:=(List.getElem?_eq_some_iff.mp hc).1
 refine ⟨?_,hlt,e⟩
 rw [List.take_add_one,hc,List.map_append,List.map_append]
 rfl
theorem ok_is_word {f:Addr} {fd:FuncData} (F:Fun K "is_word" "is_word" s_is_word f fd) (Z:Blt mg):FnOk P w K mg base CX0 1 f fd ["text"] spIsWord:=by
 refine F.ok sc_is_word (fun vs H Q E h=>?_) (fun cdv A outer s H vs Q E hr h=>?_)
 ·obtain ⟨z,rfl,_⟩:=h
  rfl
 obtain ⟨z,rfl,hz,k⟩:=h
 refine ⟨_,(pss_one (ps_ret (pe_callB (call_allK (K:=K)) (by rfl) Z.all bt_all (pa_cons (pe_comp (sc:=defScope s_is_word) (Nm:=["text"]) (own:=["sign"]) (fr:=[]) ⟨rfl,by decide +kernel,by decide +kernel,by decide +kernel,by decide +kernel⟩ (by rfl) (gfr_name (by decide)) (pi_str (pv 0)) (fun d=>(pg_name (i:=0) nd_is_word_0 (by rfl) (Or.inl (by rfl)))) (fun d=>pts_nil) (fun d=>(pe_chain op_le_str op_le_str pe_str (pv 0) pe_str))) pa_nil)))),?_⟩
 have hl:=len_list z
 refine ⟨_,rfl,z,rfl,?_⟩
 refine comp_str (cs:=z.cps.toList) (Seen H wB z.cps.toList) (by rw [hl]; exact small1000 hz) ⟨rfl,Nat.zero_le _,Same.refl _⟩ seen_len
  (fun i acc H2 c hc hp=>cyes (chain_az rfl (seen_step hc hp))) (fun acc H2 hp l hl2=>?_)
 obtain ⟨rfl,_,e⟩:=hp
 rw [List.take_length]
 exact ⟨l,_,rfl,SqL.of upd_same,k _ (e.trans (same_new hl2 _))⟩
def Tk (H H':Hp):Prop:=∀ b ys,H b=some (.tup ys)→H' b=some (.tup ys)
theorem Tk.same {H H':Hp} (e:Same H H'):Tk H H':=fun b ys h=>e b _ h
theorem Tk.lst {H:Hp} {l:Addr} {xs:List V} (h:H l=some (.lst xs)) (o:HO):Tk H (upd H l o):=fun b ys e=>by
 rw [upd_ne (ne_of e h fun z=>nomatch z)]
 exact e
theorem map_take {α β:Type} {f:α→β} {l:List α} {i:Nat} {x:α} (h:l[i]? = some x):(l.take (i+1)).map f=(l.take i).map f ++ [f x]:=by
 rw [List.take_add_one,h,List.map_append]
 rfl
theorem none_of {H H':Hp} {p:Addr} (e:Same H H') (h:H' p=none):H p=none:=by
 cases z:H p with
 | none=>rfl
 | some o=>rw [e _ _ z] at h; cases h
theorem Tk.drew {H H':Hp} {p sc:Addr} (F:FlowAt H p sc) (d:Drew H H' p):Tk H H':=fun b ys h=>by
 obtain ⟨xs,hp,_⟩:=F.here
 exact d _ _ h (ne_of h hp fun z=>nomatch z)
inductive TR {α:Type} (tv:α→List V) (H:Hp):List V→List α→Prop where
 | nil:TR tv H [] []
 | cons {a:Addr} {r:α} {vs:List V} {rs:List α} (h:H a=some (.tup (tv r))) (t:TR tv H vs rs):TR tv H (.ref a :: vs) (r :: rs)
section
variable {α:Type} {tv:α→List V}
theorem TR.keep {H H':Hp} (e:Tk H H'):∀ {vs:List V} {rs:List α},TR tv H vs rs→TR tv H' vs rs
 | _,_,.nil=>.nil
 | _,_,.cons h t=>.cons (e _ _ h) (t.keep e)
theorem TR.app {H:Hp} {ws:List V} {qs:List α} (h:TR tv H ws qs):∀ {vs:List V} {rs:List α},TR tv H vs rs→TR tv H (vs ++ ws) (rs ++ qs)
 | _,_,.nil=>h
 | _,_,.cons h' t=>.cons h' (TR.app h t)
theorem TR.snoc {H:Hp} {a:Addr} {r:α} {vs:List V} {rs:List α} (h:H a=some (.tup (tv r))) (t:TR tv H vs rs):TR tv H (vs ++ [.ref a]) (rs ++ [r]):=TR.app (.cons h .nil) t
theorem TR.len {H:Hp}:∀ {vs:List V} {rs:List α},TR tv H vs rs→vs.length=rs.length
 | _,_,.nil=>rfl
 | _,_,.cons _ t=>by rw [List.length_cons,List.length_cons,t.len]
theorem TR.at_ {H:Hp}:∀ {vs:List V} {rs:List α} {i:Nat} {x:V},TR tv H vs rs→vs[i]? = some x→∃ a r,x=.ref a∧rs[i]? = some r∧H a=some (.tup (tv r))
 | _,_,i,x,.nil,h=>by simp at h
 | _,_,0,x,.cons (a:=a) (r:=r) h' t,h=>by
  cases h
  exact ⟨a,r,rfl,rfl,h'⟩
 | _,_,i+1,x,.cons h' t,h=>t.at_ (i:=i) (by simpa using h)
end
inductive Wi where
 | lf (b:Bool)
 | has (z:Str)
 | nt (x:Wi)
 | bi (b:Bool) (x y:Wi)
def Wi.nm:Wi→Str
 | .lf b=>if b then "always" else "never"
 | .has _=>"has"
 | .nt _=>"not"
 | .bi b _ _=>if b then "and" else "or"
def Wi.hd:Wi→List V
 | .lf b=>[.str (Wi.lf b).nm]
 | .has z=>[.str "has",.str z]
 | .nt _=>[.str "not"]
 | .bi b x y=>[.str (Wi.bi b x y).nm]
def Wi.kd:Wi→List Wi
 | .lf _=>[]
 | .has _=>[]
 | .nt x=>[x]
 | .bi _ x y=>[x,y]
def Wi.sz:Wi→Nat
 | .lf _=>1
 | .has _=>1
 | .nt x=>x.sz+1
 | .bi _ x y=>x.sz+y.sz+1
def Wi.dep:Wi→Nat
 | .lf _=>0
 | .has _=>0
 | .nt x=>x.dep+1
 | .bi _ x y=>max x.dep y.dep+1
def Wi.ok (p:Str→Prop):Wi→Prop
 | .lf _=>True
 | .has z=>p z
 | .nt x=>x.ok p
 | .bi _ x y=>x.ok p∧y.ok p
def Wi.pre:Wi→List Wi
 | .lf b=>[.lf b]
 | .has z=>[.has z]
 | .nt x=>.nt x :: x.pre
 | .bi b x y=>.bi b x y :: (x.pre ++ y.pre)
def Wi.wd:Wi→Option Str
 | .has z=>some z
 | _=>none
theorem Wi.sz_pos (W:Wi):0 < W.sz:=by cases W <;> simp [Wi.sz]
theorem Wi.pre_kd (W:Wi):W.pre=W :: W.kd.flatMap Wi.pre:=by
 cases W <;> simp [Wi.pre,Wi.kd]
theorem Wi.pre_len (W:Wi):W.pre.length=W.sz:=by
 induction W with
 | lf b=>rfl
 | has z=>rfl
 | nt x ih=>simp [Wi.pre,Wi.sz,ih]
 | bi b x y ihx ihy=>simp [Wi.pre,Wi.sz,ihx,ihy]
theorem Wi.kd_dep {W x:Wi} (h:x∈W.kd):x.dep < W.dep:=by
 cases W with
 | lf b=>cases h
 | has z=>cases h
 | nt y=>rw [List.mem_singleton.mp h]; simp [Wi.dep]
 | bi b y z=>
  simp only [Wi.kd,List.mem_cons,List.not_mem_nil,or_false] at h
  rcases h with e | e <;> rw [e] <;> simp only [Wi.dep] <;> omega
theorem Wi.kd_sz {W x:Wi} (h:x∈W.kd):x.sz < W.sz:=by
 cases W with
 | lf b=>cases h
 | has z=>cases h
 | nt y=>rw [List.mem_singleton.mp h]; simp [Wi.sz]
 | bi b y z=>
  simp only [Wi.kd,List.mem_cons,List.not_mem_nil,or_false] at h
  rcases h with e | e <;> rw [e] <;> simp only [Wi.sz] <;> omega
inductive WAt (H:Hp):V→Wi→Prop where
 | mk {a:Addr} {vs:List V} {W:Wi} (h:H a=some (.tup (W.hd ++ vs))) (hl:vs.length=W.kd.length) (hk:∀ (i:Nat) v x,vs[i]? = some v→W.kd[i]? = some x→WAt H v x):WAt H (.ref a) W
theorem WAt.keep {H H':Hp} (k:Tk H H') {v:V} {W:Wi} (h:WAt H v W):WAt H' v W:=by
 induction h with
 | mk h hl _ ih=>exact .mk (k _ _ h) hl ih
def Ws (H:Hp) (vs:List V) (ws:List Wi):Prop:=vs.length=ws.length∧∀ (i:Nat) v x,vs[i]? = some v→ws[i]? = some x→WAt H v x
theorem Ws.keep {H H':Hp} (k:Tk H H') {vs:List V} {ws:List Wi} (h:Ws H vs ws):Ws H' vs ws:=⟨h.1,fun i v x a b=>(h.2 i v x a b).keep k⟩
theorem Ws.nil {H:Hp}:Ws H [] []:=⟨rfl,fun i v x a=>by simp at a⟩
theorem Ws.app {H:Hp} {vs us:List V} {ws xs:List Wi} (a:Ws H vs ws) (b:Ws H us xs):Ws H (vs ++ us) (ws ++ xs):=by
 refine ⟨by rw [List.length_append,List.length_append,a.1,b.1],fun i v x h1 h2=>?_⟩
 by_cases c:i < vs.length
 ·rw [List.getElem?_append_left c] at h1
  rw [List.getElem?_append_left (by rw [← a.1]; exact c)] at h2
  exact a.2 i v x h1 h2
 ·rw [List.getElem?_append_right (by omega)] at h1
  rw [List.getElem?_append_right (by rw [← a.1]; omega),← a.1] at h2
  exact b.2 _ v x h1 h2
theorem Ws.one {H:Hp} {v:V} {x:Wi} (h:WAt H v x):Ws H [v] [x]:=by
 refine ⟨rfl,fun i u y a b=>?_⟩
 cases i with
 | zero=>cases a; cases b; exact h
 | succ i=>simp at a
theorem Ws.rev {H:Hp} {vs:List V} {ws:List Wi} (h:Ws H vs ws):Ws H vs.reverse ws.reverse:=by
 refine ⟨by rw [List.length_reverse,List.length_reverse,h.1],fun i v x a b=>?_⟩
 have hi:i < vs.length:=by
  have:=(List.getElem?_eq_some_iff.mp a).1
  rwa [List.length_reverse] at this
 rw [List.getElem?_reverse hi] at a
 rw [List.getElem?_reverse (by rw [← h.1]; exact hi),← h.1] at b
 exact h.2 _ v x a b
theorem WAt.see {H:Hp} {v:V} {W:Wi} (h:WAt H v W):∃ a vs,v=.ref a∧H a=some (.tup (W.hd ++ vs))∧Ws H vs W.kd:=by
 cases h with
 | mk h hl hk=>exact ⟨_,_,rfl,h,hl,hk⟩
theorem wat_of {H:Hp} {a:Addr} {us:List V} {W:Wi} (h:H a=some (.tup (W.hd ++ us))) (k:Ws H us W.kd):WAt H (.ref a) W:=.mk h k.1 k.2
theorem with_leaf {B G:Prop} (h:B→G) (b:B):G:=h b
inductive spWishI (n:Nat) (vs:List V) (H:Hp) (Q:VK):Prop
 | mk (p sc:Addr) (l:Str) (room deep most:Int) (h1:vs=[.ref p,.str l,.int room,.int deep,.int most]) (h2:0 < l.length) (h3:l.length≤1000) (h4:1≤room) (h5:room≤100) (h6:0≤deep) (h7:deep < n) (h8:0≤most) (h9:most≤100) (h10:FlowAt H p sc) (h11:∀ v W H',WAt H' v W→(W.sz:Int)≤room→(W.dep:Int)≤deep→W.ok (fun z=>(z.cps.toList.length:Int)≤most∧∀ c∈z.cps.toList,c∈l.cps.toList)→Drew H H' p→FlowAt H' p sc→Q v H'):spWishI n vs H Q
def spWish (n:Nat):Sp:=fun vs H Q u3_=>spWishI n vs H Q
theorem wish_step {n:Nat} {f:Addr} {fd:FuncData} (F:Fun K "_law_wish" "_law_wish" s_law_wish f fd) (Z:Blt mg) (C_law_pick:Cal P w K mg base "_law_pick" 1 ["_law_flow_here","_law_many"] spPick) (C_law_wish:Cal P w K mg base "_law_wish" (n+1) ["_law_flow_here","_law_letters_here","_law_room","_law_deep","_law_most"] (spWish n)) :
  FnOk P w K mg base CX0 (n+2) f fd ["_law_flow_here","_law_letters_here","_law_room","_law_deep","_law_most"] (spWish (n+1)):=by
 refine F.ok sc_law_wish (fun vs H Q E h=>?_) (fun cdv A outer s H vs Q E hr h=>?_)
 ·obtain ⟨p,sc,l,room,deep,most,rfl,_⟩:=h
  rfl
 obtain ⟨p,sc,l,room,deep,most,rfl,hl0,hl1,hm0,hm1,hd0,hd1,ht0,ht1,FA,k⟩:=h
 refine ⟨_,(pss_cons (ps_set (i:=5) sc_law_wish.nd (by rfl) (Or.inl (by rfl)) (pe_c C_law_pick (hr.mono (by omega)) (pa_cons (pv 0) (pa_cons pe_int pa_nil)))) 
   (pss_cons (ps_if (PW.pt (pw_or (pt_cmpR op_lt (pv 2) pe_int (nomark _)) (pw_or (pt_cmpR op_eq (pv 3) pe_int (nomark _)) (pw_or1 (pt_cmpR op_eq (pv 5) pe_int (nomark _)))))) 
    (pss_cons (ps_set (i:=6) sc_law_wish.nd (by rfl) (Or.inl (by rfl)) (pe_c C_law_pick (hr.mono (by omega)) (pa_cons (pv 0) (pa_cons pe_int pa_nil)))) 
    (pss_cons (ps_if (pt_cmpR op_lt (pv 6) pe_int (nomark _)) 
     (pss_one (ps_ret (pe_ix (ix_listK (K:=K)) (pe_lst (pa_cons (pe_tup (pa_cons pe_str pa_nil)) (pa_cons (pe_tup (pa_cons pe_str pa_nil)) pa_nil))) (pv 6) (fun _ _=>rfl)))) pss_nil) 
    (pss_one (ps_ret (pe_tup (pa_cons pe_str (pa_cons (pe_bmK (K:=K) PySem.F.plainAttrs_str PySem.F.slot_str_join PySem.F.type_str_join (mt_joinK (K:=K)) pe_str (pa_cons (pe_comp (sc:=defScope s_law_wish) (Nm:=["_law_flow_here","_law_letters_here","_law_room","_law_deep","_law_most","_law_way","_law_drawn","_law_first","_law_one","_law_other"]) (own:=["_law_k"]) (fr:=[0,1]) ⟨rfl,by decide +kernel,by decide +kernel,by decide +kernel,by decide +kernel⟩ (by rfl) (gfr_name (by decide)) (pi_range1 (by rfl) Z.range (pa_cons (pe_c C_law_pick (hr.mono (by omega)) (pa_cons (pv 0) (pa_cons (pe_op op_add (pv 4) pe_int) pa_nil))) pa_nil)) (fun d=>(pg_name (i:=0) nd_law_wish_0 (by rfl) (Or.inl (by rfl)))) (fun d=>pts_nil) (fun d=>(pe_ix ix_str (pv 2) (pe_c C_law_pick (hr.mono (by omega)) (pa_cons (pv 1) (pa_cons (pe_callB call_len_str (by rfl) Z.len bt_len (pa_cons (pv 2) pa_nil)) pa_nil))) (fun _ _=>rfl)))) pa_nil)) pa_nil))))))) pss_nil) 
   (pss_cons (ps_if (PW.pt (pw_or (pt_cmpR op_lt (pv 5) pe_int (nomark _)) (pw_or1 (pt_cmpR op_lt (pv 2) pe_int (nomark _))))) 
    (pss_one (ps_ret (pe_tup (pa_cons pe_str (pa_cons (pe_c C_law_wish hr (pa_cons (pv 0) (pa_cons (pv 1) (pa_cons (pe_op op_sub (pv 2) pe_int) (pa_cons (pe_op op_sub (pv 3) pe_int) (pa_cons (pv 4) pa_nil)))))) pa_nil))))) pss_nil) 
   (pss_cons (ps_set (i:=7) sc_law_wish.nd (by rfl) (Or.inl (by rfl)) (pe_op op_add pe_int (pe_c C_law_pick (hr.mono (by omega)) (pa_cons (pv 0) (pa_cons (pe_op op_sub (pv 2) pe_int) pa_nil))))) 
   (pss_cons (ps_set (i:=8) sc_law_wish.nd (by rfl) (Or.inl (by rfl)) (pe_c C_law_wish hr (pa_cons (pv 0) (pa_cons (pv 1) (pa_cons (pv 7) (pa_cons (pe_op op_sub (pv 3) pe_int) (pa_cons (pv 4) pa_nil))))))) 
   (pss_cons (ps_set (i:=9) sc_law_wish.nd (by rfl) (Or.inl (by rfl)) (pe_c C_law_wish hr (pa_cons (pv 0) (pa_cons (pv 1) (pa_cons (pe_op op_sub (pe_op op_sub (pv 2) pe_int) (pv 7)) (pa_cons (pe_op op_sub (pv 3) pe_int) (pa_cons (pv 4) pa_nil))))))) 
   (pss_one (ps_ret (pe_tup (pa_cons (pe_ix (ix_listK (K:=K)) (pe_lst (pa_cons pe_str (pa_cons pe_str pa_nil))) (pe_c C_law_pick (hr.mono (by omega)) (pa_cons (pv 0) (pa_cons pe_int pa_nil))) (fun _ _=>rfl)) (pa_cons (pv 8) (pa_cons (pv 9) pa_nil)))))))))))),?_⟩
 refine (let zz0:TS:=_; let zz1:TS:=tSeq _ zz0; let zz2:TS:=tSeq _ zz1; let zz3:TS:=tSeq _ zz2; let zz4:TS:=tSeq _ zz3; let zz5:TS:=_; let zz6:TS:=tSeq _ zz5; let zz7:TS:=tSeq _ zz6; let zz8:TS:=tSeq (tIfS _ zz7 _) zz4; (?_:tSeq _ zz8 _ _ _))
 refine ⟨_,rfl,p,sc,6,rfl,by decide,by decide,FA,fun r0 xs0 h00 h01 hx0=>?_⟩
 have FA0:=FA.go hx0
 have d0:Drew H (upd H p (.lst xs0)) p:=Drew.upd _
 generalize upd H p (.lst xs0)=H0 at FA0 d0
 refine with_leaf (fun leaf=>⟨_,rfl,_,_,rfl,rfl,_,rfl,ite2 (fun _=>leaf) (fun c1=>⟨_,rfl,rfl,_,rfl,ite2 (fun _=>leaf) (fun c2=>⟨_,rfl,rfl,_,rfl,ite2 (fun _=>leaf) (fun _=>?_)⟩)⟩)⟩) ?_
 ·have hdeep:deep≠0:=fun e=>by subst e; simp at c2
  have hroom:¬ room < 2:=of_decide_eq_false (by simpa using c1)
  refine with_leaf (fun notb=>⟨_,rfl,_,_,rfl,rfl,_,rfl,ite2 (fun _=>notb) (fun _=>⟨_,rfl,_,_,rfl,rfl,_,rfl,ite2 (fun _=>notb) (fun c5=>?_)⟩)⟩) ?_
  ·have hroom3:¬ room < 3:=of_decide_eq_false (by simpa using c5)
   refine ⟨_,rfl,_,rfl,_,_,rfl,rfl,p,sc,room - 2,rfl,by omega,by omega,FA0,fun r1 xs1 h10 h11 hx1=>⟨_,_,rfl,rfl,?_⟩⟩
   have FA1:=FA0.go hx1
   have d1:=drew_go d0 (.lst xs1)
   generalize upd H0 p (.lst xs1)=H1 at FA1 d1
   refine ⟨_,rfl,_,rfl,_,rfl,_,rfl,_,_,rfl,rfl,_,rfl,p,sc,l,1+r1,deep - 1,most,rfl,hl0,hl1,by omega,by omega,by omega,by omega,ht0,ht1,FA1,fun v1 W1 H2 hW1 sz1 dp1 ok1 dr2 FA2=>?_⟩
   refine ⟨_,rfl,_,rfl,_,rfl,_,_,rfl,rfl,_,rfl,_,_,rfl,rfl,_,rfl,_,_,rfl,rfl,_,rfl,p,sc,l,room - 1 - (1+r1),deep - 1,most,rfl,hl0,hl1,by omega,by omega,by omega,by omega,ht0,ht1,FA2,fun v2 W2 H3 hW2 sz2 dp2 ok2 dr3 FA3=>?_⟩
   have hW1':=hW1.keep (Tk.drew FA2 dr3)
   refine ⟨(by show 2≤sizeLine; decide),fun x hx=>⟨_,rfl,p,sc,2,rfl,by decide,by decide,FA3.same (same_new hx _),fun r4 xs4 h40 h41 hx4=>?_⟩⟩
   have nxp:x≠p:=by
    obtain ⟨ys,h1,_⟩:=FA3.here
    exact (ne_of_none h1 hx).symm
   have s4:=same_new hx (.lst [V.str "and",V.str "or"])
   have h4x:=upd_same (H:=H3) (a:=x) (o:=.lst [V.str "and",V.str "or"])
   have FA4:=(FA3.same s4).go hx4
   have d4:=drew_go (((d1.trans dr2).trans dr3).trans (Drew.same s4)) (.lst xs4)
   have hW1'':=(hW1'.keep (Tk.same s4)).keep (Tk.drew (FA3.same s4) (Drew.upd (.lst xs4)))
   have hW2'':=(hW2.keep (Tk.same s4)).keep (Tk.drew (FA3.same s4) (Drew.upd (.lst xs4)))
   have h5x:=(upd_ne (H:=upd H3 x (.lst [V.str "and",V.str "or"])) (o:=.lst xs4) nxp).trans h4x
   obtain ⟨b,hb⟩:∃ b:Bool,atI [V.str "and",V.str "or"] r4=some (.str (Wi.bi b W1 W2).nm):=by
    have:r4=0∨r4=1:=by omega
    rcases this with z | z
    ·subst z; exact ⟨true,atI_nat (j:=0) rfl⟩
    ·subst z; exact ⟨false,atI_nat (j:=1) rfl⟩
   refine ⟨x,_,_,_,rfl,rfl,SqL.of h5x,hb,_,rfl,_,rfl,(by show 3≤sizeLine; decide),fun q hq=>?_⟩
   have s6:=same_new hq (.tup [V.str (Wi.bi b W1 W2).nm,v1,v2])
   refine k (.ref q) (.bi b W1 W2) _ (wat_of (us:=[v1,v2]) upd_same ((Ws.one (hW1''.keep (Tk.same s6))).app (Ws.one (hW2''.keep (Tk.same s6))))) ?_ ?_ ⟨ok1,ok2⟩ (d4.trans (Drew.same s6)) (FA4.same s6)
   ·show ((W1.sz+W2.sz+1:Nat):Int)≤room
    omega
   ·show ((max W1.dep W2.dep+1:Nat):Int)≤deep
    omega
  ·refine ⟨_,rfl,_,rfl,_,rfl,_,_,rfl,rfl,_,rfl,_,_,rfl,rfl,_,rfl,p,sc,l,room - 1,deep - 1,most,rfl,hl0,hl1,by omega,by omega,by omega,by omega,ht0,ht1,FA0,fun v1 W1 H2 hW1 sz1 dp1 ok1 dr2 FA2=>⟨(by show 2≤sizeLine; decide),fun q hq=>?_⟩⟩
   have s6:=same_new hq (.tup [V.str "not",v1])
   refine k (.ref q) (.nt W1) _ (wat_of (us:=[v1]) upd_same (Ws.one (hW1.keep (Tk.same s6)))) ?_ ?_ ok1 ((d0.trans dr2).trans (Drew.same s6)) (FA2.same s6)
   ·show ((W1.sz+1:Nat):Int)≤room
    omega
   ·show ((W1.dep+1:Nat):Int)≤deep
    omega
 ·refine ⟨_,rfl,p,sc,6,rfl,by decide,by decide,FA0,fun r1 xs1 h10 h11 hx1=>?_⟩
  have FA1:=FA0.go hx1
  have d1:=drew_go d0 (.lst xs1)
  generalize upd H0 p (.lst xs1)=H1 at FA1 d1
  refine ⟨_,rfl,_,_,rfl,rfl,_,rfl,ite2 (fun c=>?_) (fun _=>?_)⟩
  ·have hr1:r1=0∨r1=1:=by
    have:=of_decide_eq_true c
    omega
   refine ⟨(by show 1≤sizeLine; decide),fun a1 ha1=>⟨(by show 1≤sizeLine; decide),fun a2 ha2=>⟨(by show 2≤sizeLine; decide),fun x hx=>⟨_,rfl,?_⟩⟩⟩⟩
   generalize hH4:upd (upd (upd H1 a1 _) a2 _) x _=H4
   have h4x:H4 x=some (.lst [V.ref a1,V.ref a2]):=by rw [← hH4]; exact upd_same
   have h41:H4 a1=some (.tup [V.str "always"]):=by rw [← hH4]; exact same_new hx _ _ _ (same_new ha2 _ _ _ upd_same)
   have h42:H4 a2=some (.tup [V.str "never"]):=by rw [← hH4]; exact same_new hx _ _ _ upd_same
   have s4:Same H1 H4:=by rw [← hH4]; exact ((same_new ha1 _).trans (same_new ha2 _)).trans (same_new hx _)
   clear hH4
   rcases hr1 with e | e
   ·subst e
    exact ⟨x,_,_,_,rfl,rfl,SqL.of h4x,atI_nat (j:=0) rfl,k (.ref a1) (.lf true) H4 (wat_of (us:=[]) h41 Ws.nil) (by show ((1:Nat):Int)≤room; omega) (by show ((0:Nat):Int)≤deep; omega) trivial (d1.trans (Drew.same s4)) (FA1.same s4)⟩
   ·subst e
    exact ⟨x,_,_,_,rfl,rfl,SqL.of h4x,atI_nat (j:=1) rfl,k (.ref a2) (.lf false) H4 (wat_of (us:=[]) h42 Ws.nil) (by show ((1:Nat):Int)≤room; omega) (by show ((0:Nat):Int)≤deep; omega) trivial (d1.trans (Drew.same s4)) (FA1.same s4)⟩
  ·refine ⟨rfl,_,rfl,_,rfl,_,_,rfl,rfl,p,sc,most+1,rfl,by omega,by omega,FA1,fun n xs2 hn0 hn1 hx2=>⟨_,rfl,by omega,by omega,?_⟩⟩
   refine comp_range (lo:=0) (k:=n.toNat) (Drawn H p sc l) (Nat.lt_of_le_of_lt (show n.toNat≤100 by omega) (by decide)) ⟨[],rfl,rfl,fun c hc=>absurd hc (by simp),FA1.go hx2,drew_go d1 _⟩ drawn_len
    (fun i acc H2 hi hp=>cyes (drawn_turn hl0 hl1 rfl rfl hp)) (fun acc H2 hp q hq=>?_)
   obtain ⟨ys,rfl,hyl,hyc,FA2,dr⟩:=hp
   refine ⟨_,q,ys.map one,rfl,rfl,SqL.of (by rw [upd_same,oneS_map]),join_ones_len ys (by omega),(by show 2≤sizeLine; decide),fun g hg=>?_⟩
   have s5:=same_new hq (.lst (ys.map oneS))
   have s6:=same_new hg (.tup [V.str "has",V.str (Txt.join (Str.ofString "") (ys.map one))])
   refine k (.ref g) (.has (Txt.join (Str.ofString "") (ys.map one))) _ (wat_of (us:=[]) upd_same Ws.nil) (by show ((1:Nat):Int)≤room; omega) (by show ((0:Nat):Int)≤deep; omega) ⟨?_,fun c hc=>?_⟩ ((dr.trans (Drew.same s5)).trans (Drew.same s6)) ((FA2.same s5).same s6)
   ·rw [join_ones]; omega
   ·rw [join_ones] at hc
    exact hyc c hc
theorem wish_none {f:Addr} {fd:FuncData}:FnOk P w K mg base CX0 1 f fd ["_law_flow_here","_law_letters_here","_law_room","_law_deep","_law_most"] (spWish 0):=by
 have no:∀ vs H Q E,¬ spWish 0 vs H Q E:=fun vs H Q E h=>by
  obtain ⟨p,sc,l,room,deep,most,_,_,_,_,_,hd0,hd1,_⟩:=h
  omega
 exact ⟨fun vs H Q E h=>absurd h (no vs H Q E),fun A outer s H args us vs Q E _ _ _ _ h=>absurd h (no vs H Q E)⟩
theorem ok_law_wish {f:Addr} {fd:FuncData} (F:Fun K "_law_wish" "_law_wish" s_law_wish f fd) (b:Binds K fd ["_law_flow_here","_law_letters_here","_law_room","_law_deep","_law_most"] []) (m:mg "_law_wish" = some (.ref f)) (Z:Blt mg) (C_law_pick:Cal P w K mg base "_law_pick" 1 ["_law_flow_here","_law_many"] spPick):∀ n:Nat,FnOk P w K mg base CX0 (n+1) f fd ["_law_flow_here","_law_letters_here","_law_room","_law_deep","_law_most"] (spWish n)
 | 0=>wish_none
 | n+1=>wish_step F Z C_law_pick ⟨f,fd,ok_law_wish F b m Z C_law_pick n,m,F.kp,b⟩
theorem same_put {H H':Hp} {c:Addr} (e:Same H H') (h:H c=none) (o:HO):Same H (upd H' c o):=fun b u q=>by
 rw [upd_ne (ne_of_none q h)]
 exact e b u q
def inKvs:List (Key × V):=[(Sum.inr "always",.int 0),(Sum.inr "never",.int 0),(Sum.inr "has",.int 0),(Sum.inr "not",.int 1),(Sum.inr "and",.int 2),(Sum.inr "or",.int 2)]
theorem in_val (W:Wi):valV inKvs (Sum.inr W.nm)=some (.int (W.kd.length:Int)):=by
 cases W with
 | lf b=>cases b <;> decide +kernel
 | has z=>exact (by decide +kernel:valV inKvs (Sum.inr "has")=some (.int 0))
 | nt x=>exact (by decide +kernel:valV inKvs (Sum.inr "not")=some (.int 1))
 | bi b x y=>
  cases b
  ·exact (by decide +kernel:valV inKvs (Sum.inr "or")=some (.int 2))
  ·exact (by decide +kernel:valV inKvs (Sum.inr "and")=some (.int 2))
theorem hd_nm (W:Wi):W.hd[0]? = some (.str W.nm):=by cases W <;> rfl
theorem nm_has {W:Wi} (h:W.wd=none):decide (V.str W.nm=V.str "has")=false:=by
 cases W with
 | lf b=>cases b <;> decide +kernel
 | has z=>cases h
 | nt x=>exact (by decide +kernel:decide (V.str "not" = V.str "has")=false)
 | bi b x y=>
  cases b
  ·exact (by decide +kernel:decide (V.str "or" = V.str "has")=false)
  ·exact (by decide +kernel:decide (V.str "and" = V.str "has")=false)
theorem hd_pos (W:Wi):0 < W.hd.length:=by cases W <;> simp [Wi.hd]
theorem cut_tail {xs us:List V}:cutV (xs ++ us) (some (xs.length:Int)) none=us:=by
 unfold cutV
 rw [HT.sIx_nat]
 show ((xs ++ us).drop (min xs.length (xs ++ us).length)).take ((xs ++ us).length - min xs.length (xs ++ us).length)=us
 rw [List.length_append,show min xs.length (xs.length+us.length)=xs.length by omega,List.drop_left' rfl,List.take_of_length_le (by omega)]
def flat (ws:List Wi):List Wi:=ws.reverse.flatMap Wi.pre
theorem last_of {vs:List V} {H:Hp} {ws:List Wi} {W:Wi} (h:Ws H vs (ws ++ [W])):∃ us u,vs=us ++ [u]∧Ws H us ws∧WAt H u W:=by
 have hl:=h.1
 rw [List.length_append] at hl
 have hne:vs≠[]:=fun e=>by rw [e] at hl; simp at hl
 have hd:=List.dropLast_concat_getLast hne
 refine ⟨vs.dropLast,vs.getLast hne,hd.symm,⟨by rw [List.length_dropLast,hl]; rfl,fun i v x a b=>?_⟩,?_⟩
 ·have hi:i < vs.dropLast.length:=(List.getElem?_eq_some_iff.mp a).1
  have hj:i < ws.length:=(List.getElem?_eq_some_iff.mp b).1
  refine h.2 i v x ?_ (by rw [List.getElem?_append_left hj]; exact b)
  rw [← hd,List.getElem?_append_left hi]
  exact a
 ·refine h.2 ws.length _ _ ?_ (by rw [List.getElem?_append_right (Nat.le_refl _),Nat.sub_self]; rfl)
  have e:ws.length=vs.dropLast.length:=by rw [List.length_dropLast,hl]; rfl
  have e2:vs=vs.dropLast ++ [vs.getLast hne]:=hd.symm
  generalize vs.getLast hne=g at e2
  rw [e]
  generalize vs.dropLast=d at e2
  subst e2
  simp
def fo (W:Wi):Nat→List Wi
 | 0=>[W]
 | i+1=>match fo W i with
  | []=>[]
  | r :: ws=>r.kd ++ ws
theorem fo_succ (W:Wi) (i:Nat):fo W (i+1)=match fo W i with | []=>[] | r :: ws=>r.kd ++ ws:=rfl
theorem fo_pre (W:Wi):∀ i,(fo W i).flatMap Wi.pre=W.pre.drop i
 | 0=>by simp [fo]
 | i+1=>by
  have ih:=fo_pre W i
  rw [fo_succ]
  have e:W.pre.drop (i+1)=(W.pre.drop i).drop 1:=by rw [List.drop_drop]
  rw [e,← ih]
  cases h:fo W i with
  | nil=>rfl
  | cons r ws=>
   rw [List.flatMap_cons,r.pre_kd]
   simp
theorem fo_at {W r:Wi} {i:Nat} (h:W.pre[i]? = some r):∃ ws,fo W i=r :: ws∧fo W (i+1)=r.kd ++ ws:=by
 have hp:=fo_pre W i
 have hi:i < W.pre.length:=(List.getElem?_eq_some_iff.mp h).1
 rw [List.drop_eq_getElem_cons hi] at hp
 rw [List.getElem?_eq_getElem hi] at h
 cases hf:fo W i with
 | nil=>rw [hf] at hp; cases hp
 | cons r' ws=>
  rw [hf,List.flatMap_cons,r'.pre_kd] at hp
  injection hp with h1 _
  obtain rfl:r'=r:=h1.trans (Option.some.inj h)
  exact ⟨ws,rfl,by rw [fo_succ,hf]⟩
theorem fo_few (ws:List Wi):ws.length≤(ws.flatMap Wi.pre).length:=by
 induction ws with
 | nil=>exact Nat.le_refl _
 | cons x ws ih=>
  rw [List.flatMap_cons,List.length_append,x.pre_len,List.length_cons]
  have:=x.sz_pos
  omega
theorem fo_len (W:Wi) (i:Nat):(fo W i).length≤W.sz:=by
 have:=fo_few (fo W i)
 rw [fo_pre,List.length_drop,W.pre_len] at this
 omega
theorem fo_end (W:Wi):fo W W.pre.length=[]:=by
 have:=fo_few (fo W W.pre.length)
 rw [fo_pre,List.drop_length] at this
 exact List.eq_nil_of_length_eq_zero (Nat.le_zero.mp this)
theorem Ws.cut {H:Hp} {vs:List V} {ws xs:List Wi} (h:Ws H vs (ws ++ xs)):∃ A B,vs=A ++ B∧Ws H A ws∧Ws H B xs:=by
 have hl:=h.1
 rw [List.length_append] at hl
 refine ⟨vs.take ws.length,vs.drop ws.length,(List.take_append_drop _ _).symm,⟨by rw [List.length_take]; omega,fun i v x a b=>?_⟩,⟨by rw [List.length_drop]; omega,fun i v x a b=>?_⟩⟩
 ·have hi:i < ws.length:=(List.getElem?_eq_some_iff.mp b).1
  rw [List.getElem?_take,if_pos hi] at a
  exact h.2 i v x a (by rw [List.getElem?_append_left hi]; exact b)
 ·rw [List.getElem?_drop] at a
  exact h.2 _ v x a (by rw [List.getElem?_append_right (Nat.le_add_right _ _),Nat.add_sub_cancel_left]; exact b)
inductive spWishFromI (vs:List V) (H:Hp) (Q:VK):Prop
 | mk (hp:Addr) (told:List V) (W:Wi) (h1:vs=[.ref hp]) (h2:H hp=some (.lst told)) (h3:TR Wi.hd H told W.pre) (h4:W.sz≤1000) (h5:∀ v H',Same H H'→WAt H' v W→Q v H'):spWishFromI vs H Q
def spWishFrom:Sp:=fun vs H Q u3_=>spWishFromI vs H Q
theorem ok_wish_from {f:Addr} {fd:FuncData} (F:Fun K "wish_from" "wish_from" s_wish_from f fd) (Z:Blt mg) {aI:Addr} (c_INNER:mg "INNER" = some (.ref aI)) (dI:DKn P w K aI inKvs):FnOk P w K mg base CX0 1 f fd ["heads"] spWishFrom:=by
 refine F.ok sc_wish_from (fun vs H Q E h=>?_) (fun cdv A outer s H vs Q E hr h=>?_)
 ·obtain ⟨hp,told,W,rfl,_⟩:=h
  rfl
 obtain ⟨hp,told,W,rfl,hh,R,hz,k⟩:=h
 have r_INNER:RelV (.ref aI) (.ref aI):=rfl
 refine ⟨_,(pss_cons (ps_set (i:=1) sc_wish_from.nd (by rfl) (Or.inl (by rfl)) (pe_lst pa_nil)) 
   (pss_cons (ps_for PassesOwn.never (by rfl) (pi_rev (K:=K) (by rfl) Z.reversed (pv 0)) (pg_name (i:=2) sc_wish_from.nd (by rfl) (Or.inl (by rfl))) 
    (pss_cons (ps_set (i:=3) sc_wish_from.nd (by rfl) (Or.inl (by rfl)) (pe_lst pa_nil)) 
    (pss_cons (ps_for PassesOwn.never (by rfl) (pi_range1 (by rfl) Z.range (pa_cons (pe_dgetC (K:=K) (pe_glob (by rfl) c_INNER r_INNER) (pe_ix (ix_tupK (K:=K)) (pv 2) pe_int (fun _ _=>rfl)) (fun _ _=>rfl)) pa_nil)) (pg_name (i:=4) sc_wish_from.nd (by rfl) (Or.inl (by rfl))) 
     (pss_one (ps_expr (pe_bmK (K:=K) PySem.F.plainAttrs_list PySem.F.slot_list_append PySem.F.type_list_append mt_append (pv 3) (pa_cons (pe_bm0K (K:=K) PySem.F.plainAttrs_list PySem.F.slot_list_pop PySem.F.type_list_pop mt_pop (pv 1)) pa_nil))))) 
    (pss_one (ps_expr (pe_bmK (K:=K) PySem.F.plainAttrs_list PySem.F.slot_list_append PySem.F.type_list_append mt_append (pv 1) (pa_cons (pe_op (op_catTK (K:=K)) (pv 2) (pe_callTy (call_tupK (K:=K)) (by rfl) Z.tuple bt_tuple (pa_cons (pv 3) pa_nil))) pa_nil))))))) 
   (pss_one (ps_ret (pe_bm0K (K:=K) PySem.F.plainAttrs_list PySem.F.slot_list_pop PySem.F.type_list_pop mt_pop (pv 1)))))),?_⟩
 refine (let zz0:TS:=_; let zz1:TS:=_; let zz2:TS:=tSeq _ zz1; let zz3:TS:=tSeq _ zz2; let zz4:TS:=tSeq (tFor _ _ zz3) zz0; (?_:tSeq _ zz4 _ _ _))
 refine ⟨(by show 0≤sizeLine; decide),fun wp hwp=>?_⟩
 have e1:=same_new hwp (.lst [])
 have h1w:=upd_same (H:=H) (a:=wp) (o:=.lst [])
 generalize upd H wp (.lst [])=H1 at e1 h1w
 have rl:=R.len
 refine ⟨_,rfl,hp,told,rfl,SqL.of (e1 _ _ hh),?_⟩
 refine for_rev (K:=K) (a:=hp) (xs:=told) (fun j σ H2=>∃ (v2 v3 v4:Option V) (vs:List V),σ=[some (.ref hp),some (.ref wp),v2,v3,v4]∧Same H H2∧H2 wp=some (.lst vs)∧Ws H2 vs (fo W (W.pre.length - j)).reverse)
  ⟨none,none,none,[],rfl,e1,h1w,by rw [Nat.sub_zero,fo_end]; exact Ws.nil⟩ (fun j σ H2 _ h=>?_) ?_ ?_
 ·obtain ⟨_,_,_,_,_,e2,_⟩:=h
  exact SqL.of (e2 _ _ hh)
 ·rintro j x σ H2 hj hx ⟨v2,v3,v4,vs,rfl,e2,h2w,W2⟩
  obtain ⟨a,r,rfl,hr',har⟩:=(R.keep (Tk.same e2)).at_ hx
  rw [rl] at hj hr'
  obtain ⟨ws,f1,f2⟩:=fo_at hr'
  have i1:W.pre.length - 1 - j+1=W.pre.length - j:=by omega
  have i2:W.pre.length - 1 - j=W.pre.length - (j+1):=by omega
  rw [i1] at f2
  rw [i2] at f1
  rw [f1]
  rw [f2,List.reverse_append] at W2
  obtain ⟨A1,B1,rfl,WA,WB⟩:=W2.cut
  have WC:=WB.rev
  rw [List.reverse_reverse] at WC
  obtain ⟨C,rfl⟩:∃ C:List V,B1=C.reverse:=⟨B1.reverse,by simp⟩
  rw [List.reverse_reverse] at WC
  have fl:=fo_len W (W.pre.length - (j+1))
  rw [f1,List.length_cons] at fl
  have hal:=WA.1
  rw [List.length_reverse] at hal
  have hcl:=WC.1
  have hk2:r.kd.length≤2:=by cases r <;> simp [Wi.kd]
  have h0:atI r.hd 0=some (.str r.nm):=atI_nat (j:=0) (hd_nm r)
  refine ⟨(by show 0≤sizeLine; decide),fun ip hip=>?_⟩
  have nwi:wp≠ip:=ne_of_none h2w hip
  have s3:=same_new hip (.lst [])
  have h3i:=upd_same (H:=H2) (a:=ip) (o:=.lst [])
  have h3w:=s3 _ _ h2w
  have h3a:=s3 _ _ har
  have WA3:=WA.keep (Tk.same s3)
  have WC3:=WC.keep (Tk.same s3)
  have e3:=e2.trans s3
  have hip0:=none_of e2 hip
  generalize upd H2 ip (.lst [])=H3 at s3 h3i h3w h3a WA3 WC3 e3
  refine ⟨_,rfl,a,_,_,_,rfl,rfl,SqT.of h3a,h0,aI,inKvs,Sum.inr r.nm,_,rfl,rfl,dI,in_val r,_,rfl,by omega,by omega,?_⟩
  have hn:((r.kd.length:Nat):Int).toNat=C.length:=by rw [Int.toNat_natCast,hcl]
  rw [hn]
  refine for_range (lo:=0) (n:=C.length) (fun i σ H4=>∃ v4:Option V,σ=[some (.ref hp),some (.ref wp),some (.ref a),some (.ref ip),v4]∧Same H H4∧H4 wp=some (.lst (A1 ++ (C.drop i).reverse))∧H4 ip=some (.lst (C.take i))∧H4 a=some (.tup r.hd)∧Ws H4 A1 ws.reverse∧Ws H4 C r.kd)
   ⟨v4,rfl,e3,h3w,h3i,h3a,WA3,WC3⟩ ?_ ?_
  ·rintro i σ H4 hi ⟨v4,rfl,e4,h4w,h4i,h4a,WA4,WC4⟩
   have hd:C.drop i=C[i] :: C.drop (i+1):=List.drop_eq_getElem_cons hi
   have hw4:H4 wp=some (.lst ((A1 ++ (C.drop (i+1)).reverse) ++ [C[i]])):=by rw [h4w,hd,List.reverse_cons,List.append_assoc]
   refine ⟨_,rfl,.inl ⟨rfl,_,SqL.of h4i⟩,_,rfl,.inl ⟨rfl,_,SqL.of hw4⟩,wp,_,C[i],rfl,rfl,hw4,(by simp),?_⟩
   rw [List.dropLast_concat]
   have K5:=Tk.lst hw4 (.lst (A1 ++ (C.drop (i+1)).reverse))
   have e5:=same_put e4 hwp (.lst (A1 ++ (C.drop (i+1)).reverse))
   have h5w:=upd_same (H:=H4) (a:=wp) (o:=.lst (A1 ++ (C.drop (i+1)).reverse))
   have h5i:=(upd_ne (H:=H4) (o:=.lst (A1 ++ (C.drop (i+1)).reverse)) nwi.symm).trans h4i
   have h5a:=K5 _ _ h4a
   have WA5:=WA4.keep K5
   have WC5:=WC4.keep K5
   generalize upd H4 wp (.lst (A1 ++ (C.drop (i+1)).reverse))=H5 at K5 e5 h5w h5i h5a WA5 WC5
   have K6:=Tk.lst h5i (.lst (C.take i ++ [C[i]]))
   have et:C.take (i+1)=C.take i ++ [C[i]]:=by rw [List.take_add_one,List.getElem?_eq_getElem hi]; rfl
   have htl:(C.take i).length≤2:=by rw [List.length_take]; omega
   refine ⟨ip,_,_,rfl,rfl,h5i,(by rw [sizeLine_eq]; omega),_,rfl,same_put e5 hip0 _,(upd_ne nwi).trans h5w,by rw [upd_same,et],K6 _ _ h5a,WA5.keep K6,WC5.keep K6⟩
  ·rintro σ H4 ⟨v4,rfl,e4,h4w,h4i,h4a,WA4,WC4⟩
   rw [List.drop_length,List.reverse_nil,List.append_nil] at h4w
   rw [List.take_length] at h4i
   refine ⟨_,rfl,.inl ⟨rfl,_,SqL.of h4w⟩,_,rfl,_,rfl,ip,C,rfl,.inl ⟨SqL.of h4i,fun tp htp=>?_⟩⟩
   have s5:=same_new htp (.tup C)
   have h5t:=upd_same (H:=H4) (a:=tp) (o:=.tup C)
   have h5w:=s5 _ _ h4w
   have h5a:=s5 _ _ h4a
   have e5:=e4.trans s5
   have WA5:=WA4.keep (Tk.same s5)
   have WC5:=WC4.keep (Tk.same s5)
   generalize upd H4 tp (.tup C)=H5 at s5 h5t h5w h5a e5 WA5 WC5
   have hhd:=hd_pos r
   have hrl2:r.hd.length≤2:=by cases r <;> simp [Wi.hd]
   have hne:r.hd≠[]:=fun e=>by rw [e] at hhd; cases hhd
   have fin:∀ (g:Addr) (H6:Hp),Same H5 H6→H6 g=some (.tup (r.hd ++ C))→Same H (upd H6 wp (.lst (A1 ++ [V.ref g])))∧upd H6 wp (.lst (A1 ++ [V.ref g])) wp=some (.lst (A1 ++ [V.ref g]))∧Ws (upd H6 wp (.lst (A1 ++ [V.ref g]))) (A1 ++ [V.ref g]) (r :: ws).reverse:=fun g H6 s6 h6=>by
    have K7:=Tk.lst (s6 _ _ h5w) (.lst (A1 ++ [V.ref g]))
    refine ⟨same_put (e5.trans s6) hwp _,upd_same,?_⟩
    rw [List.reverse_cons]
    exact ((WA5.keep (Tk.same s6)).app (Ws.one (wat_of h6 (WC5.keep (Tk.same s6))))).keep K7
   refine ⟨a,tp,_,_,rfl,rfl,SqT.of h5a,SqT.of h5t,hne,(by rw [sizeLine_eq]; omega),fun hC=>?_,fun hC g hg=>?_⟩
   ·obtain ⟨g1,g2,g3⟩:=fin a H5 (Same.refl _) (by rw [hC,List.append_nil]; exact h5a)
    exact ⟨wp,_,_,rfl,rfl,h5w,(by rw [sizeLine_eq]; omega),_,_,_,_,rfl,g1,g2,g3⟩
   ·obtain ⟨g1,g2,g3⟩:=fin g _ (same_new hg _) upd_same
    exact ⟨wp,_,_,rfl,rfl,same_new hg _ _ _ h5w,(by rw [sizeLine_eq]; omega),_,_,_,_,rfl,g1,g2,g3⟩
 ·rintro σ H2 ⟨v2,v3,v4,vs,rfl,e2,h2w,W2⟩
  rw [rl,Nat.sub_self] at W2
  obtain ⟨us,u,rfl,W3,hu⟩:=last_of (ws:=[]) W2
  refine ⟨_,rfl,.inl ⟨rfl,_,SqL.of h2w⟩,wp,_,u,rfl,rfl,h2w,(by simp),k u _ (same_put e2 hwp _) (hu.keep (Tk.lst h2w _))⟩
theorem ifN {c:Bool} {A B:Prop} (h:c=false) (b:B):if c=true then A else B:=by rw [h]; exact b
theorem ifY {c:Bool} {A B:Prop} (h:c=true) (a:A):if c=true then A else B:=by rw [if_pos h]; exact a
theorem str_ext {x y:Str} (h:x.cps.toList=y.cps.toList):x=y:=by
 cases x with
 | mk a=>
  cases y with
  | mk b=>exact congrArg Str.mk (Array.toList_inj.mp h)
theorem Wi.ok_pre {p:Str→Prop} {W:Wi} (h:W.ok p):∀ {r:Wi},r∈W.pre→r.ok p:=by
 induction W with
 | lf b=>intro r hr; simp [Wi.pre] at hr; rw [hr]; exact h
 | has z=>intro r hr; simp [Wi.pre] at hr; rw [hr]; exact h
 | nt x ih=>
  intro r hr
  rcases List.mem_cons.mp hr with e | e
  ·rw [e]; exact h
  ·exact ih h e
 | bi b x y ihx ihy=>
  intro r hr
  rcases List.mem_cons.mp hr with e | e
  ·rw [e]; exact h
  ·rcases List.mem_append.mp e with e | e
   ·exact ihx h.1 e
   ·exact ihy h.2 e
def dotS (z:Str):Str:=if z.length=0 then Str.ofString "." else z
def Wi.hs:Wi→List Str
 | .lf b=>[(Wi.lf b).nm]
 | .has z=>[Str.ofString "has",z]
 | .nt x=>[(Wi.nt x).nm]
 | .bi b x y=>[(Wi.bi b x y).nm]
theorem Wi.hd_hs (W:Wi):W.hd=W.hs.map V.str:=by cases W <;> rfl
def names:List Str:=[Str.ofString "always",Str.ofString "never",Str.ofString "has",Str.ofString "not",Str.ofString "and",Str.ofString "or"]
theorem nm_mem (W:Wi):W.nm∈names:=by
 cases W with
 | lf b=>cases b <;> simp [Wi.nm,names]
 | has z=>simp [Wi.nm,names]
 | nt x=>simp [Wi.nm,names]
 | bi b x y=>cases b <;> simp [Wi.nm,names]
theorem names_ok:∀ s∈names,s.length≤300∧s.length≠0∧∀ c∈s.cps.toList,c≠32:=by decide +kernel
theorem dot_nm (W:Wi):dotS W.nm=W.nm:=if_neg (names_ok _ (nm_mem W)).2.1
def Wi.tk (W:Wi):List Str:=W.hs.map dotS
theorem Wi.tk_has (z:Str):(Wi.has z).tk=[Str.ofString "has",dotS z]:=by
 show [dotS (Str.ofString "has"),dotS z]=_
 rw [show dotS (Str.ofString "has")=Str.ofString "has" from dot_nm (.has z)]
theorem Wi.tk_no {W:Wi} (h:W.wd=none):W.tk=[W.nm]:=by
 cases W with
 | has z=>cases h
 | lf b=>exact congrArg (fun s=>[s]) (dot_nm (.lf b))
 | nt x=>exact congrArg (fun s=>[s]) (dot_nm (.nt x))
 | bi b x y=>exact congrArg (fun s=>[s]) (dot_nm (.bi b x y))
theorem Wi.tk_len (W:Wi):W.tk.length=W.hd.length:=by rw [Wi.hd_hs,Wi.tk,List.length_map,List.length_map]
theorem Wi.tk_two (W:Wi):W.tk.length≤2:=by rw [Wi.tk_len]; cases W <;> simp [Wi.hd]
theorem Wi.tk_pos (W:Wi):0 < W.tk.length:=by rw [Wi.tk_len]; exact hd_pos W
def Wi.tks (W:Wi):List Str:=W.pre.flatMap Wi.tk
theorem Wi.tks_kd (W:Wi):W.tks=W.tk ++ W.kd.flatMap Wi.tks:=by
 unfold Wi.tks
 rw [Wi.pre_kd,List.flatMap_cons,List.flatMap_assoc]
theorem flat_len {ws:List Wi}:(ws.flatMap Wi.tk).length≤2 * ws.length:=by
 induction ws with
 | nil=>exact Nat.le_refl _
 | cons x ws ih=>
  rw [List.flatMap_cons,List.length_append,List.length_cons]
  have:=x.tk_two
  omega
theorem Wi.tks_len (W:Wi):W.tks.length≤2 * W.sz:=by
 have:=flat_len (ws:=W.pre)
 rw [W.pre_len] at this
 exact this
def Lw (z:Str):Prop:=z.length≤300∧∀ c∈z.cps.toList,97≤c∧c≤122
def arN (z:Str):Nat:=if z=Str.ofString "not" then 1 else if z=Str.ofString "and"∨z=Str.ofString "or" then 2 else 0
def wOk (z:Str):Bool:=decide (z.length≠0) && wordB z.cps.toList
def scan:List Str→Nat→Bool→Nat→Option Nat
 | [],d,h,n=>if h=true∨0 < d then some n else none
 | z :: ws,d,true,n=>if z=Str.ofString "."∨wOk z=true then scan ws d false (n+1) else some n
 | z :: ws,d,false,n=>if d=0∨z∉names then some n else scan ws (d - 1+arN z) (decide (z=Str.ofString "has")) (n+1)
theorem wOk_lw {z:Str} (h:wOk z=true) (hz:z.length≤300):Lw z∧dotS z=z:=by
 unfold wOk at h
 rw [Bool.and_eq_true,decide_eq_true_eq] at h
 refine ⟨⟨hz,fun c hc=>?_⟩,if_neg h.1⟩
 have:=h.2
 unfold wordB at this
 rw [List.all_map,List.all_eq_true] at this
 have:=this c hc
 have e:wB c=true:=this
 unfold wB at e
 rw [Bool.and_eq_true,decide_eq_true_eq,decide_eq_true_eq] at e
 exact e
theorem scan_wishes:∀ (n:Nat) (ws:List Str) (d m:Nat),ws.length≤n→(∀ z∈ws,z.length≤300)→scan ws d false m=none→∃ Ws:List Wi,Ws.length=d∧ws=Ws.flatMap Wi.tks∧∀ W∈Ws,W.ok Lw
 | n,[],d,m,_,_,h=>by
  unfold scan at h
  refine ⟨[],?_,rfl,fun W hW=>absurd hW (by simp)⟩
  by_cases hd:0 < d
  ·rw [if_pos (.inr hd)] at h
   cases h
  ·exact (Nat.eq_zero_of_not_pos hd).symm
 | 0,z :: ws,_,_,hn,_,_=>by simp at hn
 | n+1,z :: ws,d,m,hn,hl,h=>by
  unfold scan at h
  by_cases hb:d=0∨z∉names
  ·rw [if_pos hb] at h
   cases h
  ·rw [if_neg hb] at h
   have hd:d≠0:=fun e=>hb (.inl e)
   have hz:z∈names:=Classical.byContradiction fun e=>hb (.inr e)
   have hn':ws.length≤n:=by simpa using hn
   have hl':∀ y∈ws,y.length≤300:=fun y hy=>hl y (List.mem_cons_of_mem _ hy)
   have tk1:∀ {W:Wi},W.wd=none→W.kd=[]→W.tks=[W.nm]:=fun {W} h1 h2=>by rw [Wi.tks_kd,h2,Wi.tk_no h1]; rfl
   unfold names at hz
   rcases List.mem_cons.mp hz with rfl | hz
   ·rw [show arN (Str.ofString "always")=0 from by decide +kernel,show decide (Str.ofString "always" = Str.ofString "has")=false from by decide +kernel] at h
    obtain ⟨Ws,h1,h2,h3⟩:=scan_wishes n ws _ _ hn' hl' h
    refine ⟨.lf true :: Ws,by rw [List.length_cons]; omega,?_,fun W hW=>?_⟩
    ·rw [List.flatMap_cons,tk1 (W:=.lf true) rfl rfl,h2]
     rfl
    ·rcases List.mem_cons.mp hW with rfl | e
     ·exact trivial
     ·exact h3 W e
   rcases List.mem_cons.mp hz with rfl | hz
   ·rw [show arN (Str.ofString "never")=0 from by decide +kernel,show decide (Str.ofString "never" = Str.ofString "has")=false from by decide +kernel] at h
    obtain ⟨Ws,h1,h2,h3⟩:=scan_wishes n ws _ _ hn' hl' h
    refine ⟨.lf false :: Ws,by rw [List.length_cons]; omega,?_,fun W hW=>?_⟩
    ·rw [List.flatMap_cons,tk1 (W:=.lf false) rfl rfl,h2]
     rfl
    ·rcases List.mem_cons.mp hW with rfl | e
     ·exact trivial
     ·exact h3 W e
   rcases List.mem_cons.mp hz with rfl | hz
   ·rw [show arN (Str.ofString "has")=0 from by decide +kernel,decide_eq_true rfl] at h
    cases ws with
    | nil=>
     unfold scan at h
     rw [if_pos (.inl rfl)] at h
     cases h
    | cons y ws2=>
     unfold scan at h
     by_cases hy:y=Str.ofString "."∨wOk y=true
     ·rw [if_pos hy] at h
      obtain ⟨Ws,h1,h2,h3⟩:=scan_wishes n ws2 _ _ (by simp at hn'; omega) (fun x hx=>hl' x (List.mem_cons_of_mem _ hx)) h
      obtain ⟨x,hx1,hx2⟩:∃ x:Str,Lw x∧dotS x=y:=by
       rcases hy with rfl | hy
       ·exact ⟨Str.ofString "",⟨by decide +kernel,by decide +kernel⟩,by decide +kernel⟩
       ·have:=wOk_lw hy (hl' y List.mem_cons_self)
        exact ⟨y,this.1,this.2⟩
      refine ⟨.has x :: Ws,by rw [List.length_cons]; omega,?_,fun W hW=>?_⟩
      ·rw [List.flatMap_cons,Wi.tks_kd,Wi.tk_has,hx2,h2]
       rfl
      ·rcases List.mem_cons.mp hW with rfl | e
       ·exact hx1
       ·exact h3 W e
     ·rw [if_neg hy] at h
      cases h
   rcases List.mem_cons.mp hz with rfl | hz
   ·rw [show arN (Str.ofString "not")=1 from by decide +kernel,show decide (Str.ofString "not" = Str.ofString "has")=false from by decide +kernel] at h
    obtain ⟨Ws,h1,h2,h3⟩:=scan_wishes n ws _ _ hn' hl' h
    cases Ws with
    | nil=>simp at h1
    | cons x Ws=>
     refine ⟨.nt x :: Ws,by rw [List.length_cons] at h1 ⊢; omega,?_,fun W hW=>?_⟩
     ·rw [List.flatMap_cons,Wi.tks_kd (.nt x),Wi.tk_no rfl,h2,List.flatMap_cons]
      show _=([Str.ofString "not"] ++ [x].flatMap Wi.tks) ++ _
      rw [List.flatMap_cons,List.flatMap_nil,List.append_nil]
      rfl
     ·rcases List.mem_cons.mp hW with rfl | e
      ·exact h3 x List.mem_cons_self
      ·exact h3 W (List.mem_cons_of_mem _ e)
   have two:∀ b:Bool,z=(Wi.bi b (.lf true) (.lf true)).nm→z≠Str.ofString "has"→arN z=2→∃ Ws:List Wi,Ws.length=d∧z :: ws=Ws.flatMap Wi.tks∧∀ W∈Ws,W.ok Lw:=fun b hzb hzh hza=>by
    rw [hza,decide_eq_false hzh] at h
    obtain ⟨Ws,h1,h2,h3⟩:=scan_wishes n ws _ _ hn' hl' h
    match Ws,h1,h2,h3 with
    | [],h1,_,_=>simp at h1
    | [_],h1,_,_=>simp at h1
    | x :: y :: Ws,h1,h2,h3=>
     refine ⟨.bi b x y :: Ws,by rw [List.length_cons,List.length_cons] at h1; rw [List.length_cons]; omega,?_,fun W hW=>?_⟩
     ·rw [List.flatMap_cons,Wi.tks_kd (.bi b x y),Wi.tk_no rfl,h2,List.flatMap_cons,List.flatMap_cons,hzb]
      show _=([(Wi.bi b x y).nm] ++ [x,y].flatMap Wi.tks) ++ _
      rw [List.flatMap_cons,List.flatMap_cons,List.flatMap_nil,List.append_nil,List.append_assoc,List.append_assoc]
      rfl
     ·rcases List.mem_cons.mp hW with rfl | e
      ·exact ⟨h3 x List.mem_cons_self,h3 y (List.mem_cons_of_mem _ List.mem_cons_self)⟩
      ·exact h3 W (List.mem_cons_of_mem _ (List.mem_cons_of_mem _ e))
   rcases List.mem_cons.mp hz with e | hz
   ·exact two true (by rw [e]; rfl) (by rw [e]; decide +kernel) (by rw [e]; decide +kernel)
   ·have e:=List.mem_singleton.mp hz
    exact two false (by rw [e]; rfl) (by rw [e]; decide +kernel) (by rw [e]; decide +kernel)
theorem flat_ge {ws:List Wi}:ws.length≤(ws.flatMap Wi.tk).length:=by
 induction ws with
 | nil=>exact Nat.le_refl _
 | cons x ws ih=>
  rw [List.flatMap_cons,List.length_append,List.length_cons]
  have:=x.tk_pos
  omega
theorem Wi.sz_tks (W:Wi):W.sz≤W.tks.length:=by
 rw [← W.pre_len]
 exact flat_ge
theorem Wi.dep_sz:∀ W:Wi,W.dep < W.sz
 | .lf _=>by simp [Wi.dep,Wi.sz]
 | .has _=>by simp [Wi.dep,Wi.sz]
 | .nt x=>by have:=Wi.dep_sz x; simp [Wi.dep,Wi.sz]; omega
 | .bi _ x y=>by have:=Wi.dep_sz x; have:=Wi.dep_sz y; simp [Wi.dep,Wi.sz]; omega
theorem scan_wish {ws:List Str} (hl:∀ z∈ws,z.length≤300) (h:scan ws 1 false 0=none):∃ W:Wi,ws=W.tks∧W.ok Lw∧W.sz≤ws.length∧W.dep < ws.length:=by
 obtain ⟨Ws,h1,h2,h3⟩:=scan_wishes ws.length ws 1 0 (Nat.le_refl _) hl h
 match Ws,h1,h2,h3 with
 | [W],_,h2,h3=>
  rw [List.flatMap_cons,List.flatMap_nil,List.append_nil] at h2
  have:=W.sz_tks
  have:=W.dep_sz
  rw [h2]
  exact ⟨W,rfl,h3 W List.mem_cons_self,by omega,by omega⟩
def hdR (ws:List Str) (n:Nat):Sum Nat (List Str):=match ws[n]? with
 | none=>.inl n
 | some z=>if z∉names then .inl n else if z≠Str.ofString "has" then .inr [z] else match ws[n+1]? with
  | none=>.inl (n+1)
  | some y=>if y=Str.ofString "." then .inr [Str.ofString "has",Str.ofString ""] else if wOk y=true then .inr [Str.ofString "has",y] else .inl (n+1)
theorem drop_at {ws:List Str} {n:Nat} {z:Str} (h:ws[n]? = some z):ws.drop n=z :: ws.drop (n+1):=by
 obtain ⟨hn,e⟩:=List.getElem?_eq_some_iff.mp h
 rw [List.drop_eq_getElem_cons hn,e]
theorem scan_bad {ws:List Str} {n d m:Nat} (hd:0 < d) (hn:n≤ws.length) (h:hdR ws n=.inl m):scan (ws.drop n) d false n=some m:=by
 unfold hdR at h
 cases h0:ws[n]? with
 | none=>
  rw [h0] at h
  cases h
  rw [List.drop_of_length_le (List.getElem?_eq_none_iff.mp h0)]
  unfold scan
  rw [if_pos (.inr hd)]
 | some z=>
  rw [h0] at h
  rw [drop_at h0]
  unfold scan
  dsimp only at h
  by_cases c1:z∉names
  ·rw [if_pos c1] at h
   cases h
   rw [if_pos (.inr c1)]
  ·rw [if_neg c1] at h
   rw [if_neg (fun z=>z.elim (fun e=>by omega) c1)]
   by_cases c2:z≠Str.ofString "has"
   ·rw [if_pos c2] at h
    cases h
   ·rw [if_neg c2] at h
    have e2:z=Str.ofString "has":=Classical.byContradiction c2
    rw [e2,decide_eq_true rfl]
    cases h1:ws[n+1]? with
    | none=>
     rw [h1] at h
     cases h
     rw [List.drop_of_length_le (List.getElem?_eq_none_iff.mp h1)]
     unfold scan
     rw [if_pos (.inl rfl)]
    | some y=>
     rw [h1] at h
     rw [drop_at h1]
     unfold scan
     dsimp only at h
     by_cases c3:y=Str.ofString "."
     ·rw [if_pos c3] at h
      cases h
     ·rw [if_neg c3] at h
      by_cases c4:wOk y=true
      ·rw [if_pos c4] at h
       cases h
      ·rw [if_neg c4] at h
       cases h
       rw [if_neg (fun z=>z.elim c3 c4)]
theorem scan_good {ws:List Str} {n d:Nat} {hs:List Str} (hd:0 < d) (h:hdR ws n=.inr hs):∃ z:Str,hs[0]? = some z∧z∈names∧0 < hs.length∧n+hs.length≤ws.length∧scan (ws.drop n) d false n=scan (ws.drop (n+hs.length)) (d - 1+arN z) false (n+hs.length):=by
 unfold hdR at h
 cases h0:ws[n]? with
 | none=>rw [h0] at h; cases h
 | some z=>
  rw [h0] at h
  have hn:=(List.getElem?_eq_some_iff.mp h0).1
  rw [drop_at h0]
  dsimp only at h
  by_cases c1:z∉names
  ·rw [if_pos c1] at h
   cases h
  ·rw [if_neg c1] at h
   have c1':z∈names:=Classical.byContradiction c1
   have hne:¬ (d=0∨z∉names):=fun z=>z.elim (fun e=>by omega) c1
   by_cases c2:z≠Str.ofString "has"
   ·rw [if_pos c2] at h
    cases h
    refine ⟨z,rfl,c1',Nat.one_pos,hn,?_⟩
    conv=>lhs; unfold scan
    rw [if_neg hne,decide_eq_false c2]
    rfl
   ·rw [if_neg c2] at h
    have e2:z=Str.ofString "has":=Classical.byContradiction c2
    cases h1:ws[n+1]? with
    | none=>rw [h1] at h; cases h
    | some y=>
     rw [h1] at h
     have hn1:=(List.getElem?_eq_some_iff.mp h1).1
     have fin:(y=Str.ofString "."∨wOk y=true)→scan (z :: ws.drop (n+1)) d false n=scan (ws.drop (n+2)) (d - 1+arN (Str.ofString "has")) false (n+2):=fun hy=>by
      rw [drop_at h1]
      conv=>lhs; unfold scan
      rw [if_neg hne,e2,decide_eq_true rfl]
      conv=>lhs; unfold scan
      rw [if_pos hy]
     dsimp only at h
     by_cases c3:y=Str.ofString "."
     ·rw [if_pos c3] at h
      cases h
      exact ⟨_,rfl,e2▸c1',Nat.succ_pos _,hn1,fin (.inl c3)⟩
     ·rw [if_neg c3] at h
      by_cases c4:wOk y=true
      ·rw [if_pos c4] at h
       cases h
       exact ⟨_,rfl,e2▸c1',Nat.succ_pos _,hn1,fin (.inr c4)⟩
      ·rw [if_neg c4] at h
       cases h
theorem scan_end {ws:List Str} {n m:Nat} (h:scan (ws.drop n) 0 false n=some m):n < ws.length∧m=n:=by
 rcases Nat.lt_or_ge n ws.length with z | z
 ·refine ⟨z,?_⟩
  rw [List.drop_eq_getElem_cons z] at h
  unfold scan at h
  rw [if_pos (.inl rfl)] at h
  exact (Option.some.inj h).symm
 ·rw [List.drop_of_length_le z] at h
  unfold scan at h
  rw [if_neg (by simp)] at h
  cases h
inductive spCountI (vs:List V) (H:Hp) (Q:VK):Prop
 | mk (W:Wi) (h1:vs=[.str W.nm]) (h2:Q (.int (W.kd.length:Int)) H):spCountI vs H Q
def spCount:Sp:=fun vs H Q u3_=>spCountI vs H Q
theorem ok_inner_count {f:Addr} {fd:FuncData} (F:Fun K "inner_count" "inner_count" s_inner_count f fd) (Z:Blt mg) {aI:Addr} (c_INNER:mg "INNER" = some (.ref aI)) (sI:(aI==sysModules)=false) (dI:DKn P w K aI inKvs):FnOk P w K mg base CX0 1 f fd ["name"] spCount:=by
 refine F.ok sc_inner_count (fun vs H Q E h=>?_) (fun cdv A outer s H vs Q E hr h=>?_)
 ·obtain ⟨W,rfl,_⟩:=h
  rfl
 obtain ⟨W,rfl,k⟩:=h
 have r_INNER:RelV (.ref aI) (.ref aI):=rfl
 refine ⟨_,(pss_one (ps_ret (pe_dgetM (K:=K) (pe_glob (by rfl) c_INNER r_INNER) (pv 0) ⟨rfl,rfl,rfl,rfl⟩))),?_⟩
 refine ⟨aI,inKvs,rfl,sI,dI,_,rfl,Sum.inr W.nm,rfl,?_⟩
 rw [in_val]
 exact k
inductive spReadWordI (vs:List V) (H:Hp) (Q:VK):Prop
 | mk (q:Addr) (ws:List Str) (n:Nat) (z:Str) (h1:vs=[.ref q,.int (n:Int)]) (h2:H q=some (.lst (ws.map V.str))) (h3:ws[n]? = some z) (h4:Q (.str z) H):spReadWordI vs H Q
def spReadWord:Sp:=fun vs H Q u3_=>spReadWordI vs H Q
theorem ok_read_word {f:Addr} {fd:FuncData} (F:Fun K "read_word" "read_word" s_read_word f fd) (Z:Blt mg):FnOk P w K mg base CX0 1 f fd ["words","at"] spReadWord:=by
 refine F.ok sc_read_word (fun vs H Q E h=>?_) (fun cdv A outer s H vs Q E hr h=>?_)
 ·obtain ⟨q,ws,n,z,rfl,_⟩:=h
  rfl
 obtain ⟨q,ws,n,z,rfl,hq,hn,k⟩:=h
 have hlt:n < ws.length:=(List.getElem?_eq_some_iff.mp hn).1
 refine ⟨_,(pss_cons (ps_if (pt_cmpR op_eq (pv 1) (pe_callB (call_lenK (K:=K)) (by rfl) Z.len bt_len (pa_cons (pv 0) pa_nil)) (nomark _)) 
    (pss_one ps_dead) pss_nil) 
   (pss_one (ps_ret (pe_ix (ix_listK (K:=K)) (pv 0) (pv 1) (fun _ _=>rfl))))),?_⟩
 refine (let zz0:TS:=_; (?_:tSeq _ zz0 _ _ _))
 refine ⟨_,rfl,_,rfl,q,_,rfl,.inl (SqL.of hq),rfl,_,rfl,ifN (decide_eq_false (fun e=>?_)) ?_⟩
 ·have:=V.int.inj e
  rw [List.length_map] at this
  omega
 ·exact ⟨_,rfl,_,rfl,q,_,_,_,rfl,rfl,SqL.of hq,atI_nat (by rw [List.getElem?_map,hn]; rfl),k⟩
inductive spReadHeadI (vs:List V) (H:Hp) (Q:VK):Prop
 | mk (q:Addr) (ws:List Str) (n:Nat) (r:Wi) (h1:vs=[.ref q,.int (n:Int)]) (h2:H q=some (.lst (ws.map V.str))) (h3:(∃ more,ws.drop n=r.tk ++ more)) (h4:r.ok Lw) (h5:∀ a H',H a=none→Same H H'→H' a=some (.tup r.hd)→Q (.ref a) H'):spReadHeadI vs H Q
def spReadHead:Sp:=fun vs H Q u3_=>spReadHeadI vs H Q
theorem dot_ne {z:Str} (h:Lw z) (h0:z.length≠0):z≠Str.ofString ".":=fun e=>by
 have:=h.2 46 (by rw [e]; decide +kernel)
 omega
theorem ok_read_head {f:Addr} {fd:FuncData} (F:Fun K "read_head" "read_head" s_read_head f fd) (Z:Blt mg) {u_NO:Value} (c_NO_LETTERS:mg "NO_LETTERS" = some u_NO) (r_NO_LETTERS:RelV (V.str ".") u_NO) (C_read_word:Cal P w K mg base "read_word" 1 ["words","at"] spReadWord) (C_inner_count:Cal P w K mg base "inner_count" 1 ["name"] spCount) (C_is_word:Cal P w K mg base "is_word" 1 ["text"] spIsWord):FnOk P w K mg base CX0 2 f fd ["words","at"] spReadHead:=by
 refine F.ok sc_read_head (fun vs H Q E h=>?_) (fun cdv A outer s H vs Q E hr h=>?_)
 ·obtain ⟨q,ws,n,r,rfl,_⟩:=h
  rfl
 obtain ⟨q,ws,n,r,rfl,hq,⟨more,hd⟩,hok,k⟩:=h
 have at_:∀ j z,r.tk[j]? = some z→ws[n+j]? = some z:=fun j z hz=>by
  have hj:j < r.tk.length:=(List.getElem?_eq_some_iff.mp hz).1
  have:(ws.drop n)[j]? = some z:=by rw [hd,List.getElem?_append_left hj]; exact hz
  rwa [List.getElem?_drop] at this
 refine ⟨_,(pss_cons (ps_set (i:=2) sc_read_head.nd (by rfl) (Or.inl (by rfl)) (pe_c C_read_word (hr.mono (by decide)) (pa_cons (pv 0) (pa_cons (pv 1) pa_nil)))) 
   (pss_cons (ps_if (pt_cmpR op_isN (pe_c C_inner_count (hr.mono (by decide)) (pa_cons (pv 2) pa_nil)) pe_non (nomark _)) 
    (pss_one ps_dead) pss_nil) 
   (pss_cons (ps_if (pt_cmpR op_ne (pv 2) pe_str (nomark _)) 
    (pss_one (ps_ret (pe_tup (pa_cons (pv 2) pa_nil)))) pss_nil) 
   (pss_cons (ps_set (i:=3) sc_read_head.nd (by rfl) (Or.inl (by rfl)) (pe_c C_read_word (hr.mono (by decide)) (pa_cons (pv 0) (pa_cons (pe_op op_add (pv 1) pe_int) pa_nil)))) 
   (pss_cons (ps_if (pt_cmpR op_eq (pv 3) (pe_glob (by rfl) c_NO_LETTERS r_NO_LETTERS) (nomark _)) 
    (pss_one (ps_ret (pe_tup (pa_cons pe_str (pa_cons pe_str pa_nil))))) pss_nil) 
   (pss_cons (ps_if (PW.pt (pw_or (pt_cmpR op_eq (pv 3) pe_str (nomark _)) (pw_or1 (pt_not (pt_truthK (K:=K) (pe_c C_is_word (hr.mono (by decide)) (pa_cons (pv 3) pa_nil)) (fun _=>rfl)))))) 
    (pss_one ps_dead) pss_nil) 
   (pss_one (ps_ret (pe_tup (pa_cons pe_str (pa_cons (pv 3) pa_nil))))))))))),?_⟩
 refine (let zz0:TS:=_; let zz1:TS:=tSeq _ zz0; let zz2:TS:=tSeq _ zz1; let zz3:TS:=tSeq _ zz2; let zz4:TS:=tSeq _ zz3; let zz5:TS:=tSeq _ zz4; (?_:tSeq _ zz5 _ _ _))
 cases hw:r.wd with
 | none=>
  have h0:ws[n]? = some r.nm:=at_ 0 r.nm (by rw [Wi.tk_no hw]; rfl)
  refine ⟨_,rfl,_,rfl,q,ws,n,r.nm,rfl,hq,h0,?_⟩
  refine ⟨_,rfl,r,rfl,rfl,_,rfl,ifN (decide_eq_false nofun) ?_⟩
  refine ⟨_,rfl,rfl,_,rfl,ifY (by rw [nm_has hw]; rfl) ⟨_,rfl,(by show 1≤sizeLine; decide),fun g hg=>k g _ hg (same_new hg _) ?_⟩⟩
  rw [upd_same]
  cases r with
  | has z=>cases hw
  | lf b=>rfl
  | nt x=>rfl
  | bi b x y=>rfl
 | some z=>
  obtain rfl:r=.has z:=by
   cases r with
   | has y=>exact congrArg Wi.has (Option.some.inj hw)
   | lf b=>cases hw
   | nt x=>cases hw
   | bi b x y=>cases hw
  have h0:ws[n]? = some (Wi.has z).nm:=at_ 0 _ (by rw [Wi.tk_has]; rfl)
  have h1:ws[n+1]? = some (dotS z):=at_ 1 _ (by rw [Wi.tk_has]; rfl)
  refine ⟨_,rfl,_,rfl,q,ws,n,_,rfl,hq,h0,?_⟩
  refine ⟨_,rfl,.has z,rfl,rfl,_,rfl,ifN (decide_eq_false nofun) ?_⟩
  refine ⟨_,rfl,rfl,_,rfl,ifN (show (!decide (V.str "has" = V.str "has"))=false by decide +kernel) ?_⟩
  refine ⟨_,rfl,_,rfl,_,_,rfl,rfl,q,ws,n+1,dotS z,rfl,hq,h1,?_⟩
  refine ⟨_,rfl,rfl,_,rfl,?_⟩
  by_cases c0:z.length=0
  ·have e0:dotS z=Str.ofString ".":=if_pos c0
   have ez:z=Str.ofString "":=str_ext (List.eq_nil_of_length_eq_zero (by rw [len_list]; exact c0))
   refine ifY (decide_eq_true (congrArg V.str e0)) ⟨(by show 2≤sizeLine; decide),fun g hg=>k g _ hg (same_new hg _) ?_⟩
   rw [upd_same,ez]
   rfl
  ·have e0:dotS z=z:=if_neg c0
   have hlw:Lw z:=hok
   rw [e0]
   have ne0:z≠Str.ofString "":=fun e=>c0 (by rw [e]; rfl)
   refine ifN (decide_eq_false (fun e=>dot_ne hlw c0 (V.str.inj e))) ?_
   refine ⟨_,rfl,rfl,_,rfl,ifN (decide_eq_false (fun e=>ne0 (V.str.inj e))) ?_⟩
   have hwb:wordB z.cps.toList=true:=by
    unfold wordB
    rw [List.all_map,List.all_eq_true]
    intro c hc
    have:=hlw.2 c hc
    show wB c=true
    unfold wB
    rw [decide_eq_true this.1,decide_eq_true this.2]
    rfl
   refine ⟨_,rfl,z,rfl,by have:=hlw.1; omega,fun H1 e1=>?_⟩
   rw [hwb]
   refine ⟨_,rfl,iteF ?_⟩
   exact ⟨_,rfl,(by show 2≤sizeLine; decide),fun g hg=>k g _ (none_of e1 hg) (e1.trans (same_new hg _)) upd_same⟩
inductive spReadWI (vs:List V) (H:Hp) (Q:VK):Prop
 | mk (W:Wi) (t:Str) (h1:vs=[.str t]) (h2:Txt.split t ⟨#[32]⟩=W.tks) (h3:t.length≤1000000) (h4:W.sz≤1000) (h5:W.ok Lw) (h6:∀ v H',Same H H'→WAt H' v W→Q v H'):spReadWI vs H Q
def spReadW:Sp:=fun vs H Q u3_=>spReadWI vs H Q
theorem ok_read_wish {f:Addr} {fd:FuncData} (F:Fun K "read_wish" "read_wish" s_read_wish f fd) (Z:Blt mg) (C_read_head:Cal P w K mg base "read_head" 2 ["words","at"] spReadHead) (C_inner_count:Cal P w K mg base "inner_count" 1 ["name"] spCount) (C_wish_from:Cal P w K mg base "wish_from" 1 ["heads"] spWishFrom):FnOk P w K mg base CX0 3 f fd ["text"] spReadW:=by
 refine F.ok sc_read_wish (fun vs H Q E h=>?_) (fun cdv A outer s H vs Q E hr h=>?_)
 ·obtain ⟨W,t,rfl,_⟩:=h
  rfl
 obtain ⟨W,t,rfl,hsp,htl,hz,hok,k⟩:=h
 refine ⟨_,(pss_cons (ps_set (i:=1) sc_read_wish.nd (by rfl) (Or.inl (by rfl)) (pe_bmK (K:=K) PySem.F.plainAttrs_str PySem.F.slot_str_split PySem.F.type_str_split mt_split (pv 0) (pa_cons pe_str pa_nil))) 
   (pss_cons (ps_set (i:=2) sc_read_wish.nd (by rfl) (Or.inl (by rfl)) (pe_lst pa_nil)) 
   (pss_cons (ps_set (i:=3) sc_read_wish.nd (by rfl) (Or.inl (by rfl)) pe_int) 
   (pss_cons (ps_set (i:=4) sc_read_wish.nd (by rfl) (Or.inl (by rfl)) pe_int) 
   (pss_cons (ps_while PassesOwn.never (pt_cmpR op_gt (pv 4) pe_int (nomark _)) 
    (pss_cons (ps_set (i:=5) sc_read_wish.nd (by rfl) (Or.inl (by rfl)) (pe_c C_read_head (hr.mono (by decide)) (pa_cons (pv 1) (pa_cons (pv 3) pa_nil)))) 
    (pss_cons (ps_expr (pe_bmK (K:=K) PySem.F.plainAttrs_list PySem.F.slot_list_append PySem.F.type_list_append mt_append (pv 2) (pa_cons (pv 5) pa_nil))) 
    (pss_cons (ps_set (i:=3) sc_read_wish.nd (by rfl) (Or.inl (by rfl)) (pe_op op_add (pv 3) (pe_callB (call_lenK (K:=K)) (by rfl) Z.len bt_len (pa_cons (pv 5) pa_nil)))) 
    (pss_one (ps_set (i:=4) sc_read_wish.nd (by rfl) (Or.inl (by rfl)) (pe_op op_sub (pe_op op_add (pv 4) (pe_c C_inner_count (hr.mono (by decide)) (pa_cons (pe_ix (ix_tupK (K:=K)) (pv 5) pe_int (fun _ _=>rfl)) pa_nil))) pe_int))))))) 
   (pss_cons (ps_if (pt_cmpR op_lt (pv 3) (pe_callB (call_lenK (K:=K)) (by rfl) Z.len bt_len (pa_cons (pv 1) pa_nil)) (nomark _)) 
    (pss_one ps_dead) pss_nil) 
   (pss_one (ps_ret (pe_c C_wish_from (hr.mono (by decide)) (pa_cons (pv 2) pa_nil)))))))))),?_⟩
 refine (let zz0:TS:=_; let zz1:TS:=tSeq _ zz0; let zz2:TS:=_; let zz3:TS:=tSeq _ zz2; let zz4:TS:=tSeq _ zz3; let zz5:TS:=tSeq _ zz4; let zz6:TS:=tSeq (tWhile _ zz5) zz1; let zz7:TS:=tSeq _ zz6; let zz8:TS:=tSeq _ zz7; let zz9:TS:=tSeq _ zz8; (?_:tSeq _ zz9 _ _ _))
 have pl:=W.pre_len
 have tl:=W.tks_len
 refine ⟨_,rfl,rfl,t,⟨#[32]⟩,rfl,rfl,rfl,htl,fun q hq=>?_⟩
 rw [hsp]
 have e1:=same_new hq (.lst (W.tks.map V.str))
 have h1:=upd_same (H:=H) (a:=q) (o:=.lst (W.tks.map V.str))
 generalize upd H q (.lst (W.tks.map V.str))=H1 at e1 h1
 refine ⟨(by show 0≤sizeLine; decide),fun hp hhp=>?_⟩
 have s2:=same_new hhp (.lst [])
 have h2p:=upd_same (H:=H1) (a:=hp) (o:=.lst [])
 have h2q:=s2 _ _ h1
 have nqp:q≠hp:=ne_of_none h1 hhp
 have hhp0:=none_of e1 hhp
 generalize upd H1 hp (.lst [])=H2 at s2 h2p h2q
 refine ⟨fun m σ H3=>∃ (i:Nat) (hs:List V) (v5:Option V),m=W.pre.length - i∧i≤W.pre.length∧σ=[some (.str t),some (.ref q),some (.ref hp),some (.int ((((W.pre.take i).flatMap Wi.tk).length:Nat):Int)),some (.int (((fo W i).length:Nat):Int)),v5]∧Same H H3∧H3 q=some (.lst (W.tks.map V.str))∧H3 hp=some (.lst hs)∧TR Wi.hd H3 hs (W.pre.take i),
  ⟨_,0,[],none,rfl,Nat.zero_le _,rfl,e1.trans s2,h2q,h2p,by rw [List.take_zero]; exact .nil⟩,?_⟩
 rintro m σ H3 ⟨i,hs,v5,rfl,hi,rfl,e3,h3q,h3p,R3⟩
 refine ⟨_,rfl,_,_,rfl,rfl,_,rfl,?_⟩
 have fp:=fo_pre W i
 by_cases c0:0 < (fo W i).length
 ·have hlt:i < W.pre.length:=by
   cases hf:fo W i with
   | nil=>rw [hf] at c0; cases c0
   | cons r ws=>
    rw [hf,List.flatMap_cons,r.pre_kd] at fp
    have:=congrArg List.length fp
    rw [List.length_drop] at this
    simp at this
    omega
  have hri:W.pre[i]? = some W.pre[i]:=List.getElem?_eq_getElem hlt
  obtain ⟨ws,f1,f2⟩:=fo_at hri
  have hrm:W.pre[i]∈W.pre:=List.getElem_mem hlt
  generalize W.pre[i]=r at hri f1 f2 hrm
  have hrok:=Wi.ok_pre hok hrm
  have hdr:W.tks.drop ((W.pre.take i).flatMap Wi.tk).length=r.tk ++ (W.pre.drop (i+1)).flatMap Wi.tk:=by
   have e:W.tks=(W.pre.take i).flatMap Wi.tk ++ (r.tk ++ (W.pre.drop (i+1)).flatMap Wi.tk):=by
    unfold Wi.tks
    rw [← List.flatMap_cons,← List.flatMap_append]
    congr 1
    have h9:W.pre.drop i=r :: W.pre.drop (i+1):=by
     rw [List.drop_eq_getElem_cons hlt]
     congr 1
     rw [List.getElem?_eq_getElem hlt] at hri
     exact Option.some.inj hri
    rw [← h9,List.take_append_drop]
   rw [e,List.drop_left]
  refine ifY (decide_eq_true (show (0:Int) < (((fo W i).length:Nat):Int) by omega)) ⟨fun σ' H'=>∃ m',m' < W.pre.length - i∧_,fun _ _ z=>z,?_⟩
  refine ⟨_,rfl,_,rfl,q,W.tks,_,r,rfl,h3q,⟨_,hdr⟩,hrok,fun a H4 ha e4 h4a=>?_⟩
  have h4p:=e4 _ _ h3p
  have h4q:=e4 _ _ h3q
  have R4:=R3.keep (Tk.same e4)
  have hsl:=R4.len
  rw [List.length_take] at hsl
  refine ⟨_,rfl,.inl ⟨rfl,_,SqL.of h4p⟩,_,rfl,hp,_,_,rfl,rfl,h4p,(by rw [sizeLine_eq]; omega),?_⟩
  have K5:=Tk.lst h4p (.lst (hs ++ [V.ref a]))
  have e5:=same_put (e3.trans e4) hhp0 (.lst (hs ++ [V.ref a]))
  have h5p:=upd_same (H:=H4) (a:=hp) (o:=.lst (hs ++ [V.ref a]))
  have h5q:=(upd_ne (H:=H4) (o:=.lst (hs ++ [V.ref a])) nqp).trans h4q
  have h5a:=K5 _ _ h4a
  have R5:=(R4.snoc h4a).keep K5
  generalize upd H4 hp (.lst (hs ++ [V.ref a]))=H5 at K5 e5 h5p h5q h5a R5
  have h0:atI r.hd 0=some (.str r.nm):=atI_nat (j:=0) (hd_nm r)
  have htk:W.pre.take (i+1)=W.pre.take i ++ [r]:=by rw [List.take_add_one,hri]; rfl
  refine ⟨_,rfl,_,rfl,a,_,rfl,.inr (SqT.of h5a),_,_,rfl,rfl,?_⟩
  refine ⟨_,rfl,_,rfl,a,_,_,_,rfl,rfl,SqT.of h5a,h0,r,rfl,_,_,rfl,rfl,_,_,rfl,rfl,?_⟩
  refine ⟨W.pre.length - (i+1),by omega,i+1,hs ++ [V.ref a],some (V.ref a),rfl,hlt,?_,e5,h5q,h5p,by rw [htk]; exact R5⟩
  have ea:((((W.pre.take i).flatMap Wi.tk).length:Nat):Int)+((r.hd.length:Nat):Int)=((((W.pre.take (i+1)).flatMap Wi.tk).length:Nat):Int):=by
   rw [htk,List.flatMap_append,List.length_append,← r.tk_len]
   simp
  have el:(((fo W i).length:Nat):Int)+((r.kd.length:Nat):Int) - 1=(((fo W (i+1)).length:Nat):Int):=by
   rw [f1,f2,List.length_cons,List.length_append]
   omega
  rw [← ea,← el]
  rfl
 ·have hf:fo W i=[]:=List.eq_nil_of_length_eq_zero (by omega)
  rw [hf] at fp
  have hdl:=congrArg List.length fp
  rw [List.length_drop] at hdl
  have hie:i=W.pre.length:=by
   simp at hdl
   omega
  subst hie
  rw [List.take_length] at R3
  have ht:(W.pre.take W.pre.length).flatMap Wi.tk=W.tks:=by rw [List.take_length]; rfl
  rw [ht]
  refine ifN (decide_eq_false (show ¬ (0:Int) < (((fo W W.pre.length).length:Nat):Int) by omega)) ?_
  refine ⟨_,rfl,_,rfl,q,_,rfl,.inl (SqL.of h3q),_,_,rfl,rfl,_,rfl,ifN (decide_eq_false (by rw [List.length_map]; omega)) ?_⟩
  exact ⟨_,rfl,hp,hs,W,rfl,h3p,R3,hz,fun v H4 e4 hv=>k v H4 (e3.trans e4) hv⟩
def kitB (K:PySem.W.Frag) (cS c0 c1 c2 c3 c4:Addr):Bool:=
 let cs:=[(c0,0),(c1,1),(c2,2),(c3,3),(c4,4)]
 (cs.all fun p=>cs.all fun q=>PySem.W.kitOne K (.ref p.1) (.ref q.1)==some (decide (p.2=q.2))) && (cs.all fun p=>PySem.W.kitOne K (.ref p.1) (.ref cS)==some true && PySem.W.kitOne K (.ref p.1) (.type "ValueError")==some true) &&
  (cs.all fun q=>PySem.W.kitOne K (.ref cS) (.ref q.1)==some false) && PySem.W.kitOne K (.ref cS) (.type "ValueError")==some true
def exmB (K:PySem.W.Frag) (cS c0 c1 c2 c3 c4:Addr):Bool:=[c0,c1,c2,c3,c4].all fun c=>PySem.W.exmOne K (.ref c) (.ref cS)==some true
structure Kls (K:PySem.W.Frag) (mg:Str→Option Value) (cSpreadError cNoText cNoMachine cNoFit cNoName cNoRow:Addr):Prop where
 mSpreadError:mg "SpreadError" = some (.ref cSpreadError)
 mNoText:mg "NoText" = some (.ref cNoText)
 mNoMachine:mg "NoMachine" = some (.ref cNoMachine)
 mNoFit:mg "NoFit" = some (.ref cNoFit)
 mNoName:mg "NoName" = some (.ref cNoName)
 mNoRow:mg "NoRow" = some (.ref cNoRow)
 fNoText:ExcF K cNoText
 fNoMachine:ExcF K cNoMachine
 fNoFit:ExcF K cNoFit
 fNoName:ExcF K cNoName
 fNoRow:ExcF K cNoRow
 kNoFit:PySem.W.keepIn K (.ref cNoFit)=true
 kNoRow:PySem.W.keepIn K (.ref cNoRow)=true
 eNoFit:excK K cNoFit none=true
 eNoRow:excK K cNoRow none=true
 kit:kitB K cSpreadError cNoText cNoMachine cNoFit cNoName cNoRow=true
 exm:exmB K cSpreadError cNoText cNoMachine cNoFit cNoName cNoRow=true
structure Kind (K:PySem.W.Frag) (cS c0 c1 c2 c3 c4:Addr) (C:Addr) (i:Nat):Prop where
 up:PySem.W.kitOne K (.ref C) (.ref cS)=some true
 ve:PySem.W.kitOne K (.ref C) (.type "ValueError")=some true
 k0:PySem.W.kitOne K (.ref C) (.ref c0)=some (decide (i=0))
 k1:PySem.W.kitOne K (.ref C) (.ref c1)=some (decide (i=1))
 k2:PySem.W.kitOne K (.ref C) (.ref c2)=some (decide (i=2))
 k3:PySem.W.kitOne K (.ref C) (.ref c3)=some (decide (i=3))
 k4:PySem.W.kitOne K (.ref C) (.ref c4)=some (decide (i=4))
theorem kinds_of {K:PySem.W.Frag} {cS c0 c1 c2 c3 c4:Addr} (h:kitB K cS c0 c1 c2 c3 c4=true) :
  (Kind K cS c0 c1 c2 c3 c4 c0 0∧Kind K cS c0 c1 c2 c3 c4 c1 1∧Kind K cS c0 c1 c2 c3 c4 c2 2∧Kind K cS c0 c1 c2 c3 c4 c3 3∧Kind K cS c0 c1 c2 c3 c4 c4 4)∧
  (PySem.W.kitOne K (.ref cS) (.ref c0)=some false∧PySem.W.kitOne K (.ref cS) (.ref c1)=some false∧PySem.W.kitOne K (.ref cS) (.ref c2)=some false∧PySem.W.kitOne K (.ref cS) (.ref c3)=some false∧PySem.W.kitOne K (.ref cS) (.ref c4)=some false)∧PySem.W.kitOne K (.ref cS) (.type "ValueError")=some true:=by
 unfold kitB at h
 simp only [List.all_cons,List.all_nil,Bool.and_true,Bool.and_eq_true,beq_iff_eq] at h
 obtain ⟨⟨⟨⟨a0,a1,a2,a3,a4⟩,b0,b1,b2,b3,b4⟩,s0,s1,s2,s3,s4⟩,v⟩:=h
 exact ⟨⟨⟨b0.1,b0.2,a0.1,a0.2.1,a0.2.2.1,a0.2.2.2.1,a0.2.2.2.2⟩,⟨b1.1,b1.2,a1.1,a1.2.1,a1.2.2.1,a1.2.2.2.1,a1.2.2.2.2⟩,⟨b2.1,b2.2,a2.1,a2.2.1,a2.2.2.1,a2.2.2.2.1,a2.2.2.2.2⟩,⟨b3.1,b3.2,a3.1,a3.2.1,a3.2.2.1,a3.2.2.2.1,a3.2.2.2.2⟩,⟨b4.1,b4.2,a4.1,a4.2.1,a4.2.2.1,a4.2.2.2.1,a4.2.2.2.2⟩⟩,⟨s0,s1,s2,s3,s4⟩,v⟩
theorem exm_of {K:PySem.W.Frag} {cS c0 c1 c2 c3 c4 c:Addr} (h:exmB K cS c0 c1 c2 c3 c4=true) (hc:c∈[c0,c1,c2,c3,c4]):PySem.W.exmOne K (.ref c) (.ref cS)=some true:=by
 unfold exmB at h
 exact beq_iff_eq.mp (List.all_eq_true.mp h c hc)
inductive spOneDI (C:Addr) (f:Str) (vs:List V) (H:Hp) (Q:VK):Prop
 | mk (a y:_) (h1:vs=[.ref a,y]) (h2:H a=some (exH a C none)) (h3:∀ H' dx,a≠dx→(∀ b o,b≠a→H b=some o→H' b=some o)→H' a=some (exH a C (some dx))→H' dx=some (xdH dx [(f,y)])→Q .non H'):spOneDI C f vs H Q
def spOneD (C:Addr) (f:Str):Sp:=fun vs H Q u3_=>spOneDI C f vs H Q
theorem ok_NoText_init {C f:Addr} {fd:FuncData} (F:Fun K "__init__" "NoText.__init__" s_NoText_init f fd) (cf:ExcF K C) (n:NoAttr K C "at"):FnOk P w K mg base CX0 1 f fd ["self","at"] (spOneD C "at"):=by
 refine F.ok sc_NoText_init (fun vs H Q E h=>?_) (fun cdv A outer s H vs Q E hr h=>?_)
 ·obtain ⟨a,y,rfl,_⟩:=h
  rfl
 obtain ⟨a,y,rfl,e,k⟩:=h
 refine ⟨_,(pss_one (ps_xfld (K:=K) (pv 0) (pv 1))),?_⟩
 refine ⟨_,rfl,_,rfl,a,C,rfl,cf,n,.inl ⟨e,fun dx hd=>?_⟩⟩
 have nad:a≠dx:=ne_of_none e hd
 refine k _ dx nad (fun b o nb q=>?_) ((upd_ne nad).trans upd_same) upd_same
 rw [upd_ne (ne_of_none q hd),upd_ne nb]
 exact q
abbrev oneF (n:Int):List (Str × V):=[(Str.ofString "at",.int n)]
theorem raise_one {K:PySem.W.Frag} {H:Hp} {C:Addr} {n:Int} {E:XK} {g:Addr} (hx:excK K C (some (.ref g))=true) (k:∀ a H',Same H H'→ExnR H' a C (oneF n)→E (.ref a) none H') :
  ([V.int n].length≤1000∧∀ e,H e=none→spOneD C "at" (.ref e :: [V.int n]) (upd H e (exH e C none)) (fun v H2=>v=.non∧∃ a C' d ini,V.ref e=.ref a∧excK K C' ini=true∧H2 a=some (exH a C' d)∧E (.ref a) none (upd H2 a (exR a C' d))) E0):=by
 refine ⟨(by show 1≤1000; decide),fun e he=>⟨e,_,rfl,upd_same,fun H' dx nd kp h1 h2=>⟨rfl,e,C,some dx,_,rfl,hx,h1,?_⟩⟩⟩
 refine k e _ (fun b o q=>?_) (.inr ⟨dx,upd_same,(upd_ne nd.symm).trans h2⟩)
 have nb:=ne_of_none q he
 rw [upd_ne nb]
 exact kp b o nb ((upd_ne nb).trans q)
inductive spCountXI (vs:List V) (H:Hp) (Q:VK):Prop
 | mk (z:Str) (h1:vs=[.str z]) (h2:Q (if z∈names then .int (arN z:Nat) else .non) H):spCountXI vs H Q
def spCountX:Sp:=fun vs H Q u3_=>spCountXI vs H Q
theorem cnt_val (z:Str):(valV inKvs (Sum.inr z)).getD .non=if z∈names then .int (arN z:Nat) else .non:=by
 by_cases h:z∈names
 ·rw [if_pos h]
  have:∀ y∈names,(valV inKvs (Sum.inr y)).getD .non=.int (arN y:Nat):=by decide +kernel
  exact this z h
 ·rw [if_neg h]
  unfold names at h
  simp only [List.mem_cons,List.not_mem_nil,or_false,not_or] at h
  obtain ⟨a1,a2,a3,a4,a5,a6⟩:=h
  have ne:∀ {y:Str},z≠y→(Sum.inr y:Key)≠Sum.inr z:=fun h e=>h (Sum.inr.inj e).symm
  unfold inKvs
  rw [valV_neg (ne a1),valV_neg (ne a2),valV_neg (ne a3),valV_neg (ne a4),valV_neg (ne a5),valV_neg (ne a6)]
  rfl
theorem ok_inner_countX {f:Addr} {fd:FuncData} (F:Fun K "inner_count" "inner_count" s_inner_count f fd) (Z:Blt mg) {aI:Addr} (c_INNER:mg "INNER" = some (.ref aI)) (sI:(aI==sysModules)=false) (dI:DKn P w K aI inKvs):FnOk P w K mg base CX0 1 f fd ["name"] spCountX:=by
 refine F.ok sc_inner_count (fun vs H Q E h=>?_) (fun cdv A outer s H vs Q E hr h=>?_)
 ·obtain ⟨z,rfl,_⟩:=h
  rfl
 obtain ⟨z,rfl,k⟩:=h
 have r_INNER:RelV (.ref aI) (.ref aI):=rfl
 refine ⟨_,(pss_one (ps_ret (pe_dgetM (K:=K) (pe_glob (by rfl) c_INNER r_INNER) (pv 0) ⟨rfl,rfl,rfl,rfl⟩))),?_⟩
 refine ⟨aI,inKvs,rfl,sI,dI,_,rfl,Sum.inr z,rfl,?_⟩
 rw [← cnt_val] at k
 exact k
inductive spReadWordXI (cT:Addr) (vs:List V) (H:Hp) (Q:VK) (E:XK):Prop
 | mk (q:Addr) (ws:List Str) (n:Nat) (h1:vs=[.ref q,.int (n:Int)]) (h2:H q=some (.lst (ws.map V.str))) (h3:n≤ws.length) (h4:(∀ z,ws[n]? = some z→Q (.str z) H)) (h5:(ws[n]? = none→∀ a H',Same H H'→ExnR H' a cT (oneF (n:Nat))→E (.ref a) none H')):spReadWordXI cT vs H Q E
def spReadWordX (cT:Addr):Sp:=fun vs H Q E=>spReadWordXI cT vs H Q E
theorem ok_read_wordX {f:Addr} {fd:FuncData} {g cT:Addr} (F:Fun K "read_word" "read_word" s_read_word f fd) (Z:Blt mg) (hx:excK K cT (some (.ref g))=true) (C_NoText:CalX P w K mg base "NoText" 1 ["self","at"] (spOneD cT "at") cT):FnOk P w K mg base (CXE P w) 3 f fd ["words","at"] (spReadWordX cT):=by
 refine F.okX sc_read_word (fun vs H Q E h=>?_) (fun A outer s H vs Q E hr h=>?_)
 ·obtain ⟨q,ws,n,rfl,_⟩:=h
  rfl
 obtain ⟨q,ws,n,rfl,hq,hn,kq,kx⟩:=h
 refine ⟨_,(pss_cons (ps_if (pt_cmpR op_eq (pv 1) (pe_callB (call_lenK (K:=K)) (by rfl) Z.len bt_len (pa_cons (pv 0) pa_nil)) (nomark _)) 
    (pss_one (ps_raise (K:=K) (pe_x C_NoText (hr.mono (by decide)) (pa_cons (pv 1) pa_nil)) rx_def)) pss_nil) 
   (pss_one (ps_ret (pe_ix (ix_listK (K:=K)) (pv 0) (pv 1) (fun _ _=>rfl))))),?_⟩
 refine (let zz0:TS:=_; (?_:tSeq _ zz0 _ _ _))
 have hml:(ws.map V.str).length=ws.length:=List.length_map ..
 refine ⟨_,rfl,_,rfl,q,_,rfl,.inl (SqL.of hq),rfl,_,rfl,?_⟩
 rcases Nat.lt_or_ge n ws.length with z | z
 ·have h0:ws[n]? = some ws[n]:=List.getElem?_eq_getElem z
  refine ifN (decide_eq_false (fun e=>?_)) ⟨_,rfl,_,rfl,q,_,_,_,rfl,rfl,SqL.of hq,atI_nat (by rw [List.getElem?_map,h0]; rfl),kq _ h0⟩
  have:=V.int.inj e
  omega
 ·refine ifY (decide_eq_true (congrArg V.int (by show (n:Int)=((ws.map V.str).length:Int); omega))) ⟨_,rfl,raise_one hx fun a H' e ex=>kx (List.getElem?_eq_none_iff.mpr z) a H' e ex⟩
inductive spReadHeadXI (cT:Addr) (vs:List V) (H:Hp) (Q:VK) (E:XK):Prop
 | mk (q:Addr) (ws:List Str) (n:Nat) (h1:vs=[.ref q,.int (n:Int)]) (h2:H q=some (.lst (ws.map V.str))) (h3:n≤ws.length) (h4:(∀ z∈ws,z.length≤300)) (h5:(∀ hs,hdR ws n=.inr hs→∀ a H',H a=none→Same H H'→H' a=some (.tup (hs.map V.str))→Q (.ref a) H')) (h6:∀ m,hdR ws n=.inl m→∀ a H',Same H H'→ExnR H' a cT (oneF (m:Nat))→E (.ref a) none H'):spReadHeadXI cT vs H Q E
def spReadHeadX (cT:Addr):Sp:=fun vs H Q E=>spReadHeadXI cT vs H Q E
theorem ok_read_headX {f:Addr} {fd:FuncData} {g cT:Addr} (F:Fun K "read_head" "read_head" s_read_head f fd) (Z:Blt mg) (hx:excK K cT (some (.ref g))=true) (C_NoText:CalX P w K mg base "NoText" 1 ["self","at"] (spOneD cT "at") cT) {u_NO:Value} (c_NO_LETTERS:mg "NO_LETTERS" = some u_NO) (r_NO_LETTERS:RelV (V.str ".") u_NO)
  (C_read_word:CalR P w K mg base "read_word" 3 ["words","at"] (spReadWordX cT)) (C_inner_count:Cal P w K mg base "inner_count" 1 ["name"] spCountX) (C_is_word:Cal P w K mg base "is_word" 1 ["text"] spIsWord):FnOk P w K mg base (CXE P w) 4 f fd ["words","at"] (spReadHeadX cT):=by
 refine F.okX sc_read_head (fun vs H Q E h=>?_) (fun A outer s H vs Q E hr h=>?_)
 ·obtain ⟨q,ws,n,rfl,_⟩:=h
  rfl
 obtain ⟨q,ws,n,rfl,hq,hn,hl,kq,kx⟩:=h
 refine ⟨_,(pss_cons (ps_set (i:=2) sc_read_head.nd (by rfl) (Or.inl (by rfl)) (pe_r C_read_word (hr.mono (by decide)) rx_def (pa_cons (pv 0) (pa_cons (pv 1) pa_nil)))) 
   (pss_cons (ps_if (pt_cmpR op_isN (pe_c C_inner_count (hr.mono (by decide)) (pa_cons (pv 2) pa_nil)) pe_non (nomark _)) 
    (pss_one (ps_raise (K:=K) (pe_x C_NoText (hr.mono (by decide)) (pa_cons (pv 1) pa_nil)) rx_def)) pss_nil) 
   (pss_cons (ps_if (pt_cmpR op_ne (pv 2) pe_str (nomark _)) 
    (pss_one (ps_ret (pe_tup (pa_cons (pv 2) pa_nil)))) pss_nil) 
   (pss_cons (ps_set (i:=3) sc_read_head.nd (by rfl) (Or.inl (by rfl)) (pe_r C_read_word (hr.mono (by decide)) rx_def (pa_cons (pv 0) (pa_cons (pe_op op_add (pv 1) pe_int) pa_nil)))) 
   (pss_cons (ps_if (pt_cmpR op_eq (pv 3) (pe_glob (by rfl) c_NO_LETTERS r_NO_LETTERS) (nomark _)) 
    (pss_one (ps_ret (pe_tup (pa_cons pe_str (pa_cons pe_str pa_nil))))) pss_nil) 
   (pss_cons (ps_if (PW.pt (pw_or (pt_cmpR op_eq (pv 3) pe_str (nomark _)) (pw_or1 (pt_not (pt_truthK (K:=K) (pe_c C_is_word (hr.mono (by decide)) (pa_cons (pv 3) pa_nil)) (fun _=>rfl)))))) 
    (pss_one (ps_raise (K:=K) (pe_x C_NoText (hr.mono (by decide)) (pa_cons (pe_op op_add (pv 1) pe_int) pa_nil)) rx_def)) pss_nil) 
   (pss_one (ps_ret (pe_tup (pa_cons pe_str (pa_cons (pv 3) pa_nil))))))))))),?_⟩
 refine (let zz0:TS:=_; let zz1:TS:=tSeq _ zz0; let zz2:TS:=tSeq _ zz1; let zz3:TS:=tSeq _ zz2; let zz4:TS:=tSeq _ zz3; let zz5:TS:=tSeq _ zz4; (?_:tSeq _ zz5 _ _ _))
 unfold hdR at kq kx
 refine ⟨_,rfl,_,rfl,q,ws,n,rfl,hq,hn,fun z hz=>?_,fun hz a H' e ex=>kx n (by rw [hz]) a H' e ex⟩
 rw [hz] at kq kx
 have hnl:=(List.getElem?_eq_some_iff.mp hz).1
 refine ⟨_,rfl,z,rfl,rfl,_,rfl,?_⟩
 by_cases c1:z∈names
 case neg=>exact ifY (by rw [if_neg c1]; rfl) ⟨_,rfl,raise_one hx fun a H' e ex=>kx n (if_pos c1) a H' e ex⟩
 refine ifN (by rw [if_pos c1]; rfl) ?_
 dsimp only at kq kx
 rw [if_neg (fun h=>h c1)] at kq kx
 refine ⟨_,rfl,rfl,_,rfl,?_⟩
 by_cases c2:z=Str.ofString "has"
 case neg=>
  rw [if_pos c2] at kq
  refine ifY (by show (!decide (V.str z=V.str "has"))=true; rw [decide_eq_false (fun e=>c2 (V.str.inj e))]; rfl) ⟨_,rfl,(by show 1≤sizeLine; decide),fun r hr=>kq _ rfl r _ hr (same_new hr _) upd_same⟩
 rw [if_neg (fun h=>h c2)] at kq kx
 refine ifN (by show (!decide (V.str z=V.str "has"))=false; rw [c2,decide_eq_true rfl]; rfl) ?_
 refine ⟨_,rfl,_,rfl,_,_,rfl,rfl,q,ws,n+1,rfl,hq,hnl,fun y hy=>?_,fun hy a H' e ex=>kx (n+1) (by rw [hy]) a H' e ex⟩
 rw [hy] at kq kx
 dsimp only at kq kx
 refine ⟨_,rfl,rfl,_,rfl,?_⟩
 by_cases c3:y=Str.ofString "."
 ·rw [if_pos c3] at kq
  exact ifY (decide_eq_true (congrArg V.str c3)) ⟨(by show 2≤sizeLine; decide),fun r hr=>kq _ rfl r _ hr (same_new hr _) upd_same⟩
 rw [if_neg c3] at kq kx
 refine ifN (decide_eq_false (fun e=>c3 (V.str.inj e))) ?_
 have hyl:=hl y (List.mem_of_getElem? hy)
 refine ⟨_,rfl,rfl,_,rfl,?_⟩
 by_cases c4:y=Str.ofString ""
 ·have w0:¬ wOk y=true:=by rw [c4]; decide +kernel
  rw [if_neg w0] at kx
  exact ifY (decide_eq_true (congrArg V.str c4)) (iteT ⟨_,rfl,_,_,rfl,rfl,raise_one hx fun a H' e ex=>kx (n+1) rfl a H' e ex⟩)
 refine ifN (decide_eq_false (fun e=>c4 (V.str.inj e))) ?_
 have hy0:y.length≠0:=fun e=>c4 (str_ext (by rw [List.eq_nil_of_length_eq_zero (show y.cps.toList.length=0 by rw [len_list]; exact e)]; decide +kernel))
 have hwk:wOk y=wordB y.cps.toList:=by
  unfold wOk
  rw [decide_eq_true hy0,Bool.true_and]
 rw [hwk] at kq kx
 refine ⟨_,rfl,y,rfl,by omega,fun H1 e1=>⟨_,rfl,?_⟩⟩
 cases hb:wordB y.cps.toList with
 | false=>
  rw [if_neg (by rw [hb]; decide)] at kx
  exact iteT ⟨_,rfl,_,_,rfl,rfl,raise_one hx fun a H' e ex=>kx (n+1) rfl a H' (e1.trans e) ex⟩
 | true=>
  rw [if_pos hb] at kq
  exact iteF ⟨_,rfl,(by show 2≤sizeLine; decide),fun r hr=>kq _ rfl r _ (none_of e1 hr) (e1.trans (same_new hr _)) upd_same⟩
inductive spReadWXI (cT:Addr) (vs:List V) (H:Hp) (E:XK):Prop
 | mk (t:Str) (m:Nat) (h1:vs=[.str t]) (h2:t.length≤300) (h3:(∀ z∈Txt.split t ⟨#[32]⟩,z.length≤300)) (h4:scan (Txt.split t ⟨#[32]⟩) 1 false 0=some m) (h5:∀ a H',Same H H'→ExnR H' a cT (oneF (m:Nat))→E (.ref a) none H'):spReadWXI cT vs H E
def spReadWX (cT:Addr):Sp:=fun vs H u2_ E=>spReadWXI cT vs H E
theorem ok_read_wishX {f:Addr} {fd:FuncData} {g cT:Addr} (F:Fun K "read_wish" "read_wish" s_read_wish f fd) (Z:Blt mg) (hx:excK K cT (some (.ref g))=true) (C_NoText:CalX P w K mg base "NoText" 1 ["self","at"] (spOneD cT "at") cT)
  (C_read_head:CalR P w K mg base "read_head" 4 ["words","at"] (spReadHeadX cT)) (C_inner_count:Cal P w K mg base "inner_count" 1 ["name"] spCountX) (C_wish_from:Cal P w K mg base "wish_from" 1 ["heads"] spWishFrom):FnOk P w K mg base (CXE P w) 5 f fd ["text"] (spReadWX cT):=by
 refine F.okX sc_read_wish (fun vs H Q E h=>?_) (fun A outer s H vs Q E hr h=>?_)
 ·obtain ⟨t,m,rfl,_⟩:=h
  rfl
 obtain ⟨t,m,rfl,htl,hl,hsc,kx⟩:=h
 refine ⟨_,(pss_cons (ps_set (i:=1) sc_read_wish.nd (by rfl) (Or.inl (by rfl)) (pe_bmK (K:=K) PySem.F.plainAttrs_str PySem.F.slot_str_split PySem.F.type_str_split mt_split (pv 0) (pa_cons pe_str pa_nil))) 
   (pss_cons (ps_set (i:=2) sc_read_wish.nd (by rfl) (Or.inl (by rfl)) (pe_lst pa_nil)) 
   (pss_cons (ps_set (i:=3) sc_read_wish.nd (by rfl) (Or.inl (by rfl)) pe_int) 
   (pss_cons (ps_set (i:=4) sc_read_wish.nd (by rfl) (Or.inl (by rfl)) pe_int) 
   (pss_cons (ps_while PassesOwn.leaving (pt_cmpR op_gt (pv 4) pe_int (nomark _)) 
    (pss_cons (ps_set (i:=5) sc_read_wish.nd (by rfl) (Or.inl (by rfl)) (pe_r C_read_head (hr.mono (by decide)) rx_def (pa_cons (pv 1) (pa_cons (pv 3) pa_nil)))) 
    (pss_cons (ps_expr (pe_bmK (K:=K) PySem.F.plainAttrs_list PySem.F.slot_list_append PySem.F.type_list_append mt_append (pv 2) (pa_cons (pv 5) pa_nil))) 
    (pss_cons (ps_set (i:=3) sc_read_wish.nd (by rfl) (Or.inl (by rfl)) (pe_op op_add (pv 3) (pe_callB (call_lenK (K:=K)) (by rfl) Z.len bt_len (pa_cons (pv 5) pa_nil)))) 
    (pss_one (ps_set (i:=4) sc_read_wish.nd (by rfl) (Or.inl (by rfl)) (pe_op op_sub (pe_op op_add (pv 4) (pe_c C_inner_count (hr.mono (by decide)) (pa_cons (pe_ix (ix_tupK (K:=K)) (pv 5) pe_int (fun _ _=>rfl)) pa_nil))) pe_int))))))) 
   (pss_cons (ps_if (pt_cmpR op_lt (pv 3) (pe_callB (call_lenK (K:=K)) (by rfl) Z.len bt_len (pa_cons (pv 1) pa_nil)) (nomark _)) 
    (pss_one (ps_raise (K:=K) (pe_x C_NoText (hr.mono (by decide)) (pa_cons (pv 3) pa_nil)) rx_def)) pss_nil) 
   (pss_one (ps_ret (pe_c C_wish_from (hr.mono (by decide)) (pa_cons (pv 2) pa_nil)))))))))),?_⟩
 refine (let zz0:TS:=_; let zz1:TS:=tSeq _ zz0; let zz2:TS:=_; let zz3:TS:=tSeq _ zz2; let zz4:TS:=tSeq _ zz3; let zz5:TS:=tSeq _ zz4; let zz6:TS:=tSeq (tWhile _ zz5) zz1; let zz7:TS:=tSeq _ zz6; let zz8:TS:=tSeq _ zz7; let zz9:TS:=tSeq _ zz8; (?_:tSeq _ zz9 _ _ _))
 have hsl:=split_le t ⟨#[32]⟩
 refine ⟨_,rfl,rfl,t,⟨#[32]⟩,rfl,rfl,rfl,by omega,fun q hq=>?_⟩
 generalize Txt.split t ⟨#[32]⟩=ws at hl hsc hsl
 have e1:=same_new hq (.lst (ws.map V.str))
 have h1:=upd_same (H:=H) (a:=q) (o:=.lst (ws.map V.str))
 generalize upd H q (.lst (ws.map V.str))=H1 at e1 h1
 refine ⟨(by show 0≤sizeLine; decide),fun hp hhp=>?_⟩
 have s2:=same_new hhp (.lst [])
 have h2p:=upd_same (H:=H1) (a:=hp) (o:=.lst [])
 have h2q:=s2 _ _ h1
 have nqp:q≠hp:=ne_of_none h1 hhp
 have hhp0:=none_of e1 hhp
 have hml:(ws.map V.str).length=ws.length:=List.length_map ..
 generalize upd H1 hp (.lst [])=H2 at s2 h2p h2q
 refine ⟨fun mm σ H3=>∃ (n d:Nat) (hs:List V) (v5:Option V),mm=ws.length - n∧n≤ws.length∧hs.length≤n∧σ=[some (.str t),some (.ref q),some (.ref hp),some (.int ((n:Nat):Int)),some (.int ((d:Nat):Int)),v5]∧Same H H3∧H3 q=some (.lst (ws.map V.str))∧H3 hp=some (.lst hs)∧scan (ws.drop n) d false n=some m,
  ⟨_,0,1,[],none,rfl,Nat.zero_le _,Nat.le_refl _,rfl,e1.trans s2,h2q,h2p,hsc⟩,?_⟩
 rintro mm σ H3 ⟨n,d,hs,v5,rfl,hn,hhl,rfl,e3,h3q,h3p,h3s⟩
 refine ⟨_,rfl,_,_,rfl,rfl,_,rfl,?_⟩
 by_cases c0:0 < d
 ·refine ifY (decide_eq_true (show (0:Int) < ((d:Nat):Int) by omega)) ⟨fun σ' H'=>∃ m',m' < ws.length - n∧_,fun _ _ z=>z,?_⟩
  refine ⟨_,rfl,_,rfl,q,ws,n,rfl,h3q,hn,hl,fun hh hhr a H4 ha e4 h4a=>?_,fun m' hm a H' e' ex=>?_⟩
  ·obtain ⟨z,g1,g2,g3,g4,g5⟩:=scan_good c0 hhr
   have h4p:=e4 _ _ h3p
   have h4q:=e4 _ _ h3q
   refine ⟨_,rfl,.inl ⟨rfl,_,SqL.of h4p⟩,_,rfl,hp,_,_,rfl,rfl,h4p,(by rw [sizeLine_eq]; omega),?_⟩
   have e5:=same_put (e3.trans e4) hhp0 (.lst (hs ++ [V.ref a]))
   have h5p:=upd_same (H:=H4) (a:=hp) (o:=.lst (hs ++ [V.ref a]))
   have h5q:=(upd_ne (H:=H4) (o:=.lst (hs ++ [V.ref a])) nqp).trans h4q
   have h5a:=Tk.lst h4p (.lst (hs ++ [V.ref a])) _ _ h4a
   generalize upd H4 hp (.lst (hs ++ [V.ref a]))=H5 at e5 h5p h5q h5a
   have hhm:(hh.map V.str).length=hh.length:=List.length_map ..
   have h0:atI (hh.map V.str) 0=some (.str z):=atI_nat (j:=0) (by rw [List.getElem?_map,g1]; rfl)
   refine ⟨_,rfl,_,rfl,a,_,rfl,.inr (SqT.of h5a),_,_,rfl,rfl,?_⟩
   refine ⟨_,rfl,_,rfl,a,_,_,_,rfl,rfl,SqT.of h5a,h0,z,rfl,?_⟩
   rw [if_pos g2]
   refine ⟨_,_,rfl,rfl,_,_,rfl,rfl,?_⟩
   refine ⟨ws.length - (n+hh.length),by omega,n+hh.length,d - 1+arN z,hs ++ [V.ref a],some (V.ref a),rfl,g4,by rw [List.length_append]; show _+1≤_; omega,?_,e5,h5q,h5p,by rw [← g5]; exact h3s⟩
   have ea:((n:Nat):Int)+(((hh.map V.str).length:Nat):Int)=((n+hh.length:Nat):Int):=by omega
   have el:((d:Nat):Int)+((arN z:Nat):Int) - 1=((d - 1+arN z:Nat):Int):=by omega
   rw [← ea,← el]
   rfl
  ·have:=scan_bad c0 hn hm
   rw [h3s] at this
   cases this
   exact kx a H' (e3.trans e') ex
 ·have hd0:d=0:=by omega
  subst hd0
  obtain ⟨g1,g2⟩:=scan_end h3s
  subst g2
  refine ifN (decide_eq_false (show ¬ (0:Int) < ((0:Nat):Int) by omega)) ?_
  refine ⟨_,rfl,_,rfl,q,_,rfl,.inl (SqL.of h3q),_,_,rfl,rfl,_,rfl,ifY (decide_eq_true (by rw [List.length_map]; omega)) ⟨_,rfl,raise_one hx fun a H' e' ex=>kx a H' (e3.trans e') ex⟩⟩
theorem cut_strs (ws:List Str) (k:Nat) (h:k≤ws.length):cutV (ws.map V.str) none (some ((k:Nat):Int))=(ws.take k).map V.str∧cutV (ws.map V.str) (some ((k:Nat):Int)) none=(ws.drop k).map V.str:=by
 have hm:(ws.map V.str).length=ws.length:=List.length_map ..
 constructor
 ·unfold cutV
  rw [HT.sIx_nat,HT.sIx_none,hm,Nat.min_eq_left h,List.drop_zero,Nat.sub_zero,List.map_take]
 ·unfold cutV
  rw [HT.sIx_nat,HT.sIx_none,hm,Nat.min_eq_left h,List.take_of_length_le (by rw [List.length_drop,hm]; exact Nat.le_refl _),List.map_drop]
theorem sl_to (z:Str) (n:Nat):(Txt.slice z none (some ((n:Nat):Int))).cps.toList=z.cps.toList.take n:=by
 have hl:=len_list z
 rw [slice_list,HT.sIx_none,HT.sIx_nat,List.drop_zero,Nat.sub_zero]
 by_cases h:n≤z.length
 ·rw [Nat.min_eq_left h]
 ·rw [Nat.min_eq_right (by omega),List.take_of_length_le (by omega),List.take_of_length_le (by omega)]
theorem sl_fro (z:Str) (n:Nat):(Txt.slice z (some ((n:Nat):Int)) none).cps.toList=z.cps.toList.drop n:=by
 have hl:=len_list z
 rw [slice_list,HT.sIx_none,HT.sIx_nat]
 by_cases h:n≤z.length
 ·rw [Nat.min_eq_left h,List.take_of_length_le (by rw [List.length_drop]; omega)]
 ·rw [Nat.min_eq_right (by omega),List.drop_eq_nil_of_le (by omega),List.drop_eq_nil_of_le (by omega),List.take_nil]
theorem add_len (a b:Str):(a ++ b).length=a.length+b.length:=by
 show (a.cps ++ b.cps).size=a.cps.size+b.cps.size
 exact Array.size_append
theorem with_lf {B G:Prop} (h:B→G) (b:B):G:=h b
def spSigns:Sp:=fun vs H Q _=>vs=[]∧∀ z:Str,z.length=94→Q (.str z) H
theorem ok_law_signs {f:Addr} {fd:FuncData} (F:Fun K "_law_signs" "_law_signs" s_law_signs f fd) (Z:Blt mg):FnOk P w K mg base CX0 1 f fd [] spSigns:=by
 refine F.ok sc_law_signs (fun vs H Q E h=>?_) (fun cdv A outer s H vs Q E hr h=>?_)
 ·obtain ⟨rfl,_⟩:=h
  rfl
 obtain ⟨rfl,k⟩:=h
 refine ⟨_,(pss_cons (ps_set (i:=0) sc_law_signs.nd (by rfl) (Or.inl (by rfl)) pe_str) 
   (pss_one (ps_ret (pe_op op_add_str (pv 0) pe_str)))),?_⟩
 refine (let zz0:TS:=_; (?_:tSeq _ zz0 _ _ _))
 refine ⟨_,rfl,_,_,rfl,rfl,(by decide +kernel),k _ ?_⟩
 rw [add_len]
 decide +kernel
inductive spOtherWordI (vs:List V) (H:Hp) (Q:VK):Prop
 | mk (p sc:Addr) (h1:vs=[.ref p]) (h2:FlowAt H p sc) (h3:∀ (z:Str) (H':Hp),z.length≤6→Drew H H' p→FlowAt H' p sc→Q (.str z) H'):spOtherWordI vs H Q
def spOtherWord:Sp:=fun vs H Q u3_=>spOtherWordI vs H Q
theorem six_z {L:List Str} (h:L.all (fun z=>decide (z.length≤6))=true):∀ z∈L,z.length≤6:=fun z hz=>of_decide_eq_true (List.all_eq_true.mp h z hz)
theorem ow_core {f:Addr} (Z:Blt mg) (C_law_pick:Cal P w K mg base "_law_pick" 1 ["_law_flow_here","_law_many"] spPick) {cdv:Value} {A:Around} {outer:List Env} {s:Shared} {H:Hp} {Q:VK} {E:XK} (hr:Room 1 (A.deeper (envOfC "_law_other_word" (defScope s_law_other_word) s.heap.objs.size f cdv))) {p sc:Addr} (FA:FlowAt H p sc) (k:∀ (z:Str) (H':Hp),z.length≤6→Drew H H' p→FlowAt H' p sc→Q (.str z) H')
  {es1 es2:List Expr} {Z1 Z2:List Str} (a1:AllS es1 Z1) (a2:AllS es2 Z2) (hz1:Z1.length=17) (hz2:Z2.length=9) (hb1:∀ z∈Z1,z.length≤6) (hb2:∀ z∈Z2,z.length≤6) {p1 p2 p3 p4 p5 p6 p7 p8:Pos} :
  ∃ t,PSs (cxOf CX0 P w K mg base ["_law_flow_here","_law_some"] "_law_other_word" (defScope s_law_other_word) f cdv A outer s H E).nox (.Assign [.Name "_law_some" p1] (.List es1 p2) p3 :: .Assign [.Name "_law_some" p4] (.BinOp (.Name "_law_some" p5) .Add (.List es2 p6) p7) p8 :: (defBody s_law_other_word).drop 2) t∧t { nx:=fun _ H'=>Q .non H',rt:=Q } (L2.start ["_law_flow_here","_law_some"] [.ref p]) H:=by
 refine ⟨_,(pss_cons (ps_set (i:=1) sc_law_other_word.nd (by rfl) (Or.inl (by rfl)) (pe_lst (pa_consts a1)))
   (pss_cons (ps_set (i:=1) sc_law_other_word.nd (by rfl) (Or.inl (by rfl)) (pe_op op_cat (pv 1) (pe_lst (pa_consts a2))))
   (pss_one (ps_ret (pe_ix (ix_listK (K:=K)) (pv 1) (pe_c C_law_pick (hr.mono (by decide)) (pa_cons (pv 0) (pa_cons (pe_callB (call_lenK (K:=K)) (by rfl) Z.len bt_len (pa_cons (pv 1) pa_nil)) pa_nil))) (fun _ _=>rfl)))))),?_⟩
 refine ⟨(by rw [List.length_map,hz1]; decide),fun q1 hq1=>?_⟩
 have s1:=same_new hq1 (.lst (Z1.map V.str))
 have h1:upd H q1 (.lst (Z1.map V.str)) q1=some (.lst (Z1.map V.str)):=upd_same
 generalize upd H q1 (.lst (Z1.map V.str))=H1 at s1 h1
 refine ⟨_,rfl,(by rw [List.length_map,hz2]; decide),fun q2 hq2=>?_⟩
 have s2:=same_new hq2 (.lst (Z2.map V.str))
 have h2:upd H1 q2 (.lst (Z2.map V.str)) q2=some (.lst (Z2.map V.str)):=upd_same
 generalize upd H1 q2 (.lst (Z2.map V.str))=H2 at s2 h2
 refine ⟨q1,q2,_,_,rfl,rfl,s2 _ _ h1,h2,(by rw [List.length_map,List.length_map,hz1,hz2]; decide),fun q3 hq3=>?_⟩
 rw [← List.map_append]
 have hlen:(Z1 ++ Z2).length=26:=by rw [List.length_append,hz1,hz2]
 have hb:∀ z∈Z1 ++ Z2,z.length≤6:=fun z hz=>(List.mem_append.mp hz).elim (hb1 z) (hb2 z)
 generalize Z1 ++ Z2=Z3 at hlen hb
 have s3:=same_new hq3 (.lst (Z3.map V.str))
 have h3:upd H2 q3 (.lst (Z3.map V.str)) q3=some (.lst (Z3.map V.str)):=upd_same
 have s03:=(s1.trans s2).trans s3
 have FA3:=FA.same s03
 have np:q3≠p:=by
  obtain ⟨xs',hp',_⟩:=(FA.same (s1.trans s2)).here
  exact (ne_of_none hp' hq3).symm
 generalize upd H2 q3 (.lst (Z3.map V.str))=H3 at s3 h3 s03 FA3
 have hml:(Z3.map V.str).length=26:=by rw [List.length_map,hlen]
 refine ⟨_,rfl,_,rfl,_,rfl,q3,_,rfl,.inl (SqL.of h3),p,sc,_,rfl,by omega,by omega,FA3,fun r xs hr0 hr1 hx=>?_⟩
 have h4:upd H3 p (.lst xs) q3=some (.lst (Z3.map V.str)):=(upd_ne np).trans h3
 have hrn:r.toNat < Z3.length:=by omega
 have hat:atI (Z3.map V.str) r=some (.str Z3[r.toNat]):=by
  have q:atI (Z3.map V.str) ((r.toNat:Nat):Int)=some (.str Z3[r.toNat]):=atI_nat (by rw [List.getElem?_map,List.getElem?_eq_getElem hrn]; rfl)
  rwa [show ((r.toNat:Nat):Int)=r by omega] at q
 exact ⟨q3,_,_,_,rfl,rfl,SqL.of h4,hat,k _ _ (hb _ (List.getElem_mem hrn)) ((Drew.same s03).trans (Drew.upd _)) (FA3.go hx)⟩
theorem ok_law_other_word {f:Addr} {fd:FuncData} (F:Fun K "_law_other_word" "_law_other_word" s_law_other_word f fd) (Z:Blt mg) (C_law_pick:Cal P w K mg base "_law_pick" 1 ["_law_flow_here","_law_many"] spPick):FnOk P w K mg base CX0 2 f fd ["_law_flow_here"] spOtherWord:=by
 refine F.ok sc_law_other_word (fun vs H Q E h=>?_) (fun cdv A outer s H vs Q E hr h=>?_)
 ·obtain ⟨p,sc,rfl,_⟩:=h
  rfl
 obtain ⟨p,sc,rfl,FA,k⟩:=h
 exact ow_core Z C_law_pick hr FA k (.cons (.cons (.cons (.cons (.cons (.cons (.cons (.cons (.cons (.cons (.cons (.cons (.cons (.cons (.cons (.cons (.cons .nil))))))))))))))))) (.cons (.cons (.cons (.cons (.cons (.cons (.cons (.cons (.cons .nil))))))))) rfl rfl (six_z (by decide +kernel)) (six_z (by decide +kernel))
inductive spSpoiltWI (vs:List V) (H:Hp) (Q:VK):Prop
 | mk (p sc q:Addr) (ws:List Str) (L:Nat) (h1:vs=[.ref p,.ref q]) (h2:H q=some (.lst (ws.map V.str))) (h3:q≠p) (h4:0 < ws.length) (h5:ws.length≤30) (h6:6≤L) (h7:L≤20) (h8:(∀ z∈ws,z.length≤L)) (h9:FlowAt H p sc) (h10:∀ (q':Addr) (ws':List Str) (H':Hp),H' q'=some (.lst (ws'.map V.str))→q'≠p→0 < ws'.length→ws'.length≤ws.length+1→(∀ z∈ws',z.length≤L+1)→Drew H H' p→FlowAt H' p sc→Q (.ref q') H'):spSpoiltWI vs H Q
def spSpoiltW:Sp:=fun vs H Q u3_=>spSpoiltWI vs H Q
theorem ixN_at {n j:Nat} (h:j < n):ixN n ((j:Nat):Int)=some j:=by
 unfold ixN
 rw [if_pos (by omega),if_pos (by omega)]
 rfl
theorem lst_p {H:Hp} {p sc q:Addr} (FA:FlowAt H p sc) (h:H q=none):q≠p:=by
 obtain ⟨ys,h1,_⟩:=FA.here
 exact (ne_of_none h1 h).symm
theorem ok_law_spoilt {f:Addr} {fd:FuncData} (F:Fun K "_law_spoilt" "_law_spoilt" s_law_spoilt f fd) (Z:Blt mg) (C_law_pick:Cal P w K mg base "_law_pick" 1 ["_law_flow_here","_law_many"] spPick) (C_law_signs:Cal P w K mg base "_law_signs" 1 [] spSigns) (C_law_other_word:Cal P w K mg base "_law_other_word" 2 ["_law_flow_here"] spOtherWord):FnOk P w K mg base CX0 3 f fd ["_law_flow_here","_law_words"] spSpoiltW:=by
 refine F.ok sc_law_spoilt (fun vs H Q E h=>?_) (fun cdv A outer s H vs Q E hr h=>?_)
 ·obtain ⟨p,sc,q,ws,L,rfl,_⟩:=h
  rfl
 obtain ⟨p,sc,q,ws,L,rfl,hq,nqp,hw0,hw1,hL0,hL1,hb,FA,k⟩:=h
 refine ⟨_,(pss_cons (ps_set (i:=2) sc_law_spoilt.nd (by rfl) (Or.inl (by rfl)) (pe_c C_law_pick (hr.mono (by decide)) (pa_cons (pv 0) (pa_cons pe_int pa_nil)))) 
   (pss_cons (ps_set (i:=3) sc_law_spoilt.nd (by rfl) (Or.inl (by rfl)) (pe_c C_law_pick (hr.mono (by decide)) (pa_cons (pv 0) (pa_cons (pe_callB (call_lenK (K:=K)) (by rfl) Z.len bt_len (pa_cons (pv 1) pa_nil)) pa_nil)))) 
   (pss_cons (ps_if (pt_cmpR op_gt (pv 2) pe_int (nomark _)) 
    (pss_cons (ps_set (i:=4) sc_law_spoilt.nd (by rfl) (Or.inl (by rfl)) (pe_ix (ix_listK (K:=K)) (pv 1) (pv 3) (fun _ _=>rfl))) 
    (pss_cons (ps_set (i:=5) sc_law_spoilt.nd (by rfl) (Or.inl (by rfl)) (pe_c C_law_pick (hr.mono (by decide)) (pa_cons (pv 0) (pa_cons (pe_op op_add (pe_callB call_len_str (by rfl) Z.len bt_len (pa_cons (pv 4) pa_nil)) pe_int) pa_nil)))) 
    (pss_cons (ps_set (i:=6) sc_law_spoilt.nd (by rfl) (Or.inl (by rfl)) (pe_ix ix_str (pe_c0 C_law_signs (hr.mono (by decide))) (pe_c C_law_pick (hr.mono (by decide)) (pa_cons (pv 0) (pa_cons pe_int pa_nil))) (fun _ _=>rfl))) 
    (pss_cons (ps_set (i:=7) sc_law_spoilt.nd (by rfl) (Or.inl (by rfl)) (pe_op op_add_str (pe_op op_add_str (pe_slice sl_str (pv 4) po_none (po_some (pv 5))) (pv 6)) (pe_slice sl_str (pv 4) (po_some (pe_op op_sub (pe_op op_add (pv 5) (pv 2)) pe_int)) po_none))) 
    (pss_one (ps_ret (pe_op op_cat (pe_op op_cat (pe_slice (sl_listK (K:=K)) (pv 1) po_none (po_some (pv 3))) (pe_lst (pa_cons (pv 7) pa_nil))) (pe_slice (sl_listK (K:=K)) (pv 1) (po_some (pe_op op_add (pv 3) pe_int)) po_none)))))))) pss_nil) 
   (pss_cons (ps_if (PW.pt (pw_and (pt_cmpR op_eq (pv 2) pe_int (nomark _)) (pw_and1 (pt_cmpR op_gt (pe_callB (call_lenK (K:=K)) (by rfl) Z.len bt_len (pa_cons (pv 1) pa_nil)) pe_int (nomark _))))) 
    (pss_one (ps_ret (pe_op op_cat (pe_slice (sl_listK (K:=K)) (pv 1) po_none (po_some (pv 3))) (pe_slice (sl_listK (K:=K)) (pv 1) (po_some (pe_op op_add (pv 3) pe_int)) po_none)))) pss_nil) 
   (pss_cons (ps_if (pt_cmpR op_eq (pv 2) pe_int (nomark _)) 
    (pss_one (ps_ret (pe_op op_cat (pe_slice (sl_listK (K:=K)) (pv 1) po_none (po_some (pe_op op_add (pv 3) pe_int))) (pe_slice (sl_listK (K:=K)) (pv 1) (po_some (pv 3)) po_none)))) pss_nil) 
   (pss_cons (ps_if (pt_cmpR op_eq (pv 2) pe_int (nomark _)) 
    (pss_cons (ps_set (i:=8) sc_law_spoilt.nd (by rfl) (Or.inl (by rfl)) (pe_c C_law_pick (hr.mono (by decide)) (pa_cons (pv 0) (pa_cons (pe_callB (call_lenK (K:=K)) (by rfl) Z.len bt_len (pa_cons (pv 1) pa_nil)) pa_nil)))) 
    (pss_cons (ps_set (i:=9) sc_law_spoilt.nd (by rfl) (Or.inl (by rfl)) (pe_callTy (call_listK (K:=K)) (by rfl) Z.list bt_list (pa_cons (pv 1) pa_nil))) 
    (pss_cons (ps_asg (pe_tup (pa_cons (pe_ix (ix_listK (K:=K)) (pv 9) (pv 8) (fun _ _=>rfl)) (pa_cons (pe_ix (ix_listK (K:=K)) (pv 9) (pv 3) (fun _ _=>rfl)) pa_nil))) (pg_tupK (K:=K) (n:=2) (by rfl) (pgs_cons (pg_sub (pv 9) (pv 3) set_list) (pgs_cons (pg_sub (pv 9) (pv 8) set_list) pgs_nil)))) 
    (pss_one (ps_ret (pv 9)))))) pss_nil) 
   (pss_cons (ps_if (pt_cmpR op_lt (pv 2) pe_int (nomark _)) 
    (pss_one (ps_ret (pe_op op_cat (pe_op op_cat (pe_slice (sl_listK (K:=K)) (pv 1) po_none (po_some (pv 3))) (pe_lst (pa_cons (pe_c C_law_other_word (hr.mono (by decide)) (pa_cons (pv 0) pa_nil)) pa_nil))) (pe_slice (sl_listK (K:=K)) (pv 1) (po_some (pv 3)) po_none)))) pss_nil) 
   (pss_one (ps_ret (pe_op op_cat (pe_op op_cat (pe_slice (sl_listK (K:=K)) (pv 1) po_none (po_some (pv 3))) (pe_lst (pa_cons (pe_c C_law_other_word (hr.mono (by decide)) (pa_cons (pv 0) pa_nil)) pa_nil))) (pe_slice (sl_listK (K:=K)) (pv 1) (po_some (pe_op op_add (pv 3) pe_int)) po_none))))))))))),?_⟩
 refine (let zz0:TS:=_; let zz1:TS:=tSeq _ zz0; let zz2:TS:=_; let zz3:TS:=tSeq _ zz2; let zz4:TS:=tSeq _ zz3; let zz5:TS:=tSeq _ zz4; let zz6:TS:=tSeq (tIfS _ zz5 _) zz1; let zz7:TS:=tSeq _ zz6; let zz8:TS:=tSeq _ zz7; let zz9:TS:=_; let zz10:TS:=tSeq _ zz9; let zz11:TS:=tSeq _ zz10; let zz12:TS:=tSeq _ zz11; let zz13:TS:=tSeq _ zz12; let zz14:TS:=tSeq (tIfS _ zz13 _) zz8; let zz15:TS:=tSeq _ zz14; (?_:tSeq _ zz15 _ _ _))
 have hml:(ws.map V.str).length=ws.length:=List.length_map ..
 refine ⟨_,rfl,p,sc,9,rfl,by decide,by decide,FA,fun w0 xs hr0 hr1 hx=>?_⟩
 have FA1:=FA.go hx
 have d1:=Drew.upd (H:=H) (p:=p) (.lst xs)
 have hq1:=d1 _ _ hq nqp
 generalize upd H p (.lst xs)=H1 at FA1 d1 hq1
 refine ⟨_,rfl,_,rfl,q,_,rfl,.inl (SqL.of hq1),p,sc,_,rfl,by omega,by omega,FA1,fun a ys ha0 ha1 hy=>?_⟩
 have FA2:=FA1.go hy
 have d2:=d1.trans (Drew.upd (H:=H1) (p:=p) (.lst ys))
 have hq2:=Drew.upd (H:=H1) (p:=p) (.lst ys) _ _ hq1 nqp
 generalize upd H1 p (.lst ys)=H2 at FA2 d2 hq2
 obtain ⟨j,rfl⟩:∃ j:Nat,a=(j:Int):=⟨a.toNat,by omega⟩
 have hj:j < ws.length:=by omega
 have mid:∀ {H3:Hp} (z:Str) (i:Nat),i≤ws.length→j≤i+1→z.length≤L+1→(j+1+(ws.length - i)≤ws.length+1)→∀ g,H3 g=some (.lst (((ws.take j ++ [z]) ++ ws.drop i).map V.str))→g≠p→Drew H H3 p→FlowAt H3 p sc→Q (.ref g) H3:=fun {H3} z i hi _ hz hl g hg ng d3 FA3=>by
  refine k g _ H3 hg ng ?_ ?_ (fun y hy=>?_) d3 FA3
  ·rw [List.length_append,List.length_append]; show 0 < _+1+_; omega
  ·rw [List.length_append,List.length_append,List.length_take,List.length_drop]; show _+1+_≤_; omega
  ·rcases List.mem_append.mp hy with y1 | y1
   ·rcases List.mem_append.mp y1 with y2 | y2
    ·have:=hb y (List.mem_of_mem_take y2); omega
    ·rw [List.mem_singleton.mp y2]; exact hz
   ·have:=hb y (List.mem_of_mem_drop y1); omega
 refine ⟨_,rfl,_,_,rfl,rfl,_,rfl,ite2 (fun c7=>?_) (fun _=>?_)⟩
 ·have hw7:(6:Int) < w0:=of_decide_eq_true c7
  have hjat:ws[j]? = some ws[j]:=List.getElem?_eq_getElem hj
  have hzl:=hb ws[j] (List.getElem_mem hj)
  generalize ws[j]=z at hjat hzl
  refine ⟨_,rfl,_,rfl,q,_,_,_,rfl,rfl,SqL.of hq2,atI_nat (by rw [List.getElem?_map,hjat]; rfl),?_⟩
  refine ⟨_,rfl,_,rfl,z,rfl,line_le (by omega),_,_,rfl,rfl,p,sc,_,rfl,by omega,by omega,FA2,fun b xs3 hb0 hb1 hx3=>?_⟩
  have FA3:=FA2.go hx3
  have d3:=d2.trans (Drew.upd (H:=H2) (p:=p) (.lst xs3))
  have hq3:=Drew.upd (H:=H2) (p:=p) (.lst xs3) _ _ hq2 nqp
  generalize upd H2 p (.lst xs3)=H3 at FA3 d3 hq3
  refine ⟨rfl,fun sg hsg=>?_⟩
  refine ⟨_,rfl,p,sc,94,rfl,by decide,by decide,FA3,fun r4 xs4 h40 h41 hx4=>?_⟩
  have FA4:=FA3.go hx4
  have d4:=d3.trans (Drew.upd (H:=H3) (p:=p) (.lst xs4))
  have hq4:=Drew.upd (H:=H3) (p:=p) (.lst xs4) _ _ hq3 nqp
  generalize upd H3 p (.lst xs4)=H4 at FA4 d4 hq4
  obtain ⟨c,_,hc⟩:=atI_sign (l:=sg) h40 (by omega)
  refine ⟨sg,r4,c,rfl,rfl,line_le (by omega),hc,?_⟩
  obtain ⟨i,rfl⟩:∃ i:Nat,b=(i:Int):=⟨b.toNat,by omega⟩
  have b1:=Txt.slice_le z none (some ((i:Nat):Int))
  have b2:=Txt.slice_le z (some ((i:Int)+w0 - 7)) none
  have o1:(⟨#[c]⟩:Str).length=1:=rfl
  have a1:=add_len (Txt.slice z none (some ((i:Nat):Int))) ⟨#[c]⟩
  refine ⟨_,rfl,_,rfl,_,rfl,z,rfl,line_le (by omega),_,rfl,_,_,rfl,rfl,line_le (by omega),_,rfl,_,rfl,_,rfl,_,_,rfl,rfl,_,_,rfl,rfl,_,rfl,z,rfl,line_le (by omega),_,_,rfl,rfl,line_le (by omega),?_⟩
  have hbent:(Txt.slice z none (some ((i:Nat):Int)) ++ (⟨#[c]⟩:Str) ++ Txt.slice z (some ((i:Int)+w0 - 7)) none).length≤L+1:=by
   have l1:=sl_to z i
   have l2:=sl_fro z ((i:Int)+w0 - 7).toNat
   rw [show ((((i:Int)+w0 - 7).toNat:Nat):Int)=(i:Int)+w0 - 7 by omega] at l2
   have n1:=len_list (Txt.slice z none (some ((i:Nat):Int)))
   have n2:=len_list (Txt.slice z (some ((i:Int)+w0 - 7)) none)
   rw [l1,List.length_take,len_list] at n1
   rw [l2,List.length_drop,len_list] at n2
   rw [add_len,a1]
   omega
  generalize Txt.slice z none (some ((i:Nat):Int)) ++ (⟨#[c]⟩:Str) ++ Txt.slice z (some ((i:Int)+w0 - 7)) none=bent at hbent
  refine ⟨_,rfl,_,rfl,_,rfl,q,_,rfl,SqL.of hq4,fun g1 hg1=>?_⟩
  rw [(cut_strs ws j (by omega)).1]
  have s5:=same_new hg1 (.lst ((ws.take j).map V.str))
  have h5:upd H4 g1 (.lst ((ws.take j).map V.str)) g1=some (.lst ((ws.take j).map V.str)):=upd_same
  generalize upd H4 g1 (.lst ((ws.take j).map V.str))=H5 at s5 h5
  refine ⟨_,rfl,(by show 1≤sizeLine; decide),fun g2 hg2=>?_⟩
  have s6:=same_new hg2 (.lst [V.str bent])
  have h6:upd H5 g2 (.lst [V.str bent]) g2=some (.lst [V.str bent]):=upd_same
  generalize upd H5 g2 (.lst [V.str bent])=H6 at s6 h6
  refine ⟨g1,g2,_,_,rfl,rfl,s6 _ _ h5,h6,(by rw [List.length_map,List.length_take]; show _+1≤_; rw [sizeLine_eq]; omega),fun g3 hg3=>?_⟩
  have s7:=same_new hg3 (.lst ((ws.take j).map V.str ++ [V.str bent]))
  have h7:upd H6 g3 (.lst ((ws.take j).map V.str ++ [V.str bent])) g3=some (.lst ((ws.take j).map V.str ++ [V.str bent])):=upd_same
  generalize upd H6 g3 (.lst ((ws.take j).map V.str ++ [V.str bent]))=H7 at s7 h7
  refine ⟨_,rfl,_,rfl,_,_,rfl,rfl,_,rfl,q,_,rfl,SqL.of (s7 _ _ (s6 _ _ (s5 _ _ hq4))),fun g4 hg4=>?_⟩
  rw [show ((j:Nat):Int)+1=((j+1:Nat):Int) by omega,(cut_strs ws (j+1) (by omega)).2]
  have s8:=same_new hg4 (.lst ((ws.drop (j+1)).map V.str))
  have h8:upd H7 g4 (.lst ((ws.drop (j+1)).map V.str)) g4=some (.lst ((ws.drop (j+1)).map V.str)):=upd_same
  generalize upd H7 g4 (.lst ((ws.drop (j+1)).map V.str))=H8 at s8 h8
  have s48:=((s5.trans s6).trans s7).trans s8
  refine ⟨g3,g4,_,_,rfl,rfl,s8 _ _ h7,h8,(by rw [List.length_append,List.length_map,List.length_map,List.length_take,List.length_drop]; show _+1+_≤_; rw [sizeLine_eq]; omega),fun g5 hg5=>?_⟩
  have s9:=same_new hg5 (.lst ((ws.take j).map V.str ++ [V.str bent] ++ (ws.drop (j+1)).map V.str))
  exact mid bent (j+1) (by omega) (by omega) hbent (by omega) g5 (by rw [upd_same,List.map_append,List.map_append]; rfl) (lst_p (FA4.same s48) hg5) ((d4.trans (Drew.same s48)).trans (Drew.same s9)) ((FA4.same s48).same s9)
 ·refine with_lf (fun rest=>⟨_,rfl,rfl,_,rfl,ite2 (fun _=>⟨_,rfl,q,_,rfl,.inl (SqL.of hq2),_,_,rfl,rfl,_,rfl,ite2 (fun c1=>?_) (fun _=>rest)⟩) (fun _=>iteF rest)⟩) ?_
  ·have hl1:(1:Int) < ((ws.map V.str).length:Int):=of_decide_eq_true c1
   refine ⟨_,rfl,_,rfl,_,rfl,q,_,rfl,SqL.of hq2,fun g1 hg1=>?_⟩
   rw [(cut_strs ws j (by omega)).1]
   have s5:=same_new hg1 (.lst ((ws.take j).map V.str))
   have h5:upd H2 g1 (.lst ((ws.take j).map V.str)) g1=some (.lst ((ws.take j).map V.str)):=upd_same
   generalize upd H2 g1 (.lst ((ws.take j).map V.str))=H5 at s5 h5
   refine ⟨_,rfl,_,rfl,_,_,rfl,rfl,_,rfl,q,_,rfl,SqL.of (s5 _ _ hq2),fun g4 hg4=>?_⟩
   rw [show ((j:Nat):Int)+1=((j+1:Nat):Int) by omega,(cut_strs ws (j+1) (by omega)).2]
   have s8:=same_new hg4 (.lst ((ws.drop (j+1)).map V.str))
   have h8:upd H5 g4 (.lst ((ws.drop (j+1)).map V.str)) g4=some (.lst ((ws.drop (j+1)).map V.str)):=upd_same
   generalize upd H5 g4 (.lst ((ws.drop (j+1)).map V.str))=H8 at s8 h8
   have s48:=s5.trans s8
   refine ⟨g1,g4,_,_,rfl,rfl,s8 _ _ h5,h8,(by rw [List.length_map,List.length_map,List.length_take,List.length_drop,sizeLine_eq]; omega),fun g5 hg5=>?_⟩
   have s9:=same_new hg5 (.lst ((ws.take j).map V.str ++ (ws.drop (j+1)).map V.str))
   refine k g5 (ws.take j ++ ws.drop (j+1)) _ (by rw [upd_same,List.map_append]) (lst_p (FA2.same s48) hg5) (by rw [List.length_append,List.length_take,List.length_drop]; omega) (by rw [List.length_append,List.length_take,List.length_drop]; omega) (fun y hy=>?_) ((d2.trans (Drew.same s48)).trans (Drew.same s9)) ((FA2.same s48).same s9)
   rcases List.mem_append.mp hy with y1 | y1
   ·have:=hb y (List.mem_of_mem_take y1); omega
   ·have:=hb y (List.mem_of_mem_drop y1); omega
  refine ⟨_,rfl,rfl,_,rfl,ite2 (fun _=>?_) (fun _=>⟨_,rfl,rfl,_,rfl,ite2 (fun _=>?_) (fun _=>⟨_,rfl,_,_,rfl,rfl,_,rfl,ite2 (fun _=>?_) (fun _=>?_)⟩)⟩)⟩
  ·refine ⟨_,rfl,_,rfl,_,_,rfl,rfl,_,rfl,q,_,rfl,SqL.of hq2,fun g1 hg1=>?_⟩
   rw [show ((j:Nat):Int)+1=((j+1:Nat):Int) by omega,(cut_strs ws (j+1) (by omega)).1]
   have s5:=same_new hg1 (.lst ((ws.take (j+1)).map V.str))
   have h5:upd H2 g1 (.lst ((ws.take (j+1)).map V.str)) g1=some (.lst ((ws.take (j+1)).map V.str)):=upd_same
   generalize upd H2 g1 (.lst ((ws.take (j+1)).map V.str))=H5 at s5 h5
   refine ⟨_,rfl,_,rfl,_,rfl,q,_,rfl,SqL.of (s5 _ _ hq2),fun g4 hg4=>?_⟩
   rw [(cut_strs ws j (by omega)).2]
   have s8:=same_new hg4 (.lst ((ws.drop j).map V.str))
   have h8:upd H5 g4 (.lst ((ws.drop j).map V.str)) g4=some (.lst ((ws.drop j).map V.str)):=upd_same
   generalize upd H5 g4 (.lst ((ws.drop j).map V.str))=H8 at s8 h8
   have s48:=s5.trans s8
   refine ⟨g1,g4,_,_,rfl,rfl,s8 _ _ h5,h8,(by rw [List.length_map,List.length_map,List.length_take,List.length_drop,sizeLine_eq]; omega),fun g5 hg5=>?_⟩
   have s9:=same_new hg5 (.lst ((ws.take (j+1)).map V.str ++ (ws.drop j).map V.str))
   refine k g5 (ws.take (j+1) ++ ws.drop j) _ (by rw [upd_same,List.map_append]) (lst_p (FA2.same s48) hg5) (by rw [List.length_append,List.length_take,List.length_drop]; omega) (by rw [List.length_append,List.length_take,List.length_drop]; omega) (fun y hy=>?_) ((d2.trans (Drew.same s48)).trans (Drew.same s9)) ((FA2.same s48).same s9)
   rcases List.mem_append.mp hy with y1 | y1
   ·have:=hb y (List.mem_of_mem_take y1); omega
   ·have:=hb y (List.mem_of_mem_drop y1); omega
  ·refine ⟨_,rfl,_,rfl,q,_,rfl,.inl (SqL.of hq2),p,sc,_,rfl,by omega,by omega,FA2,fun b ys3 hb0 hb1 hy3=>?_⟩
   have FA3:=FA2.go hy3
   have d3:=d2.trans (Drew.upd (H:=H2) (p:=p) (.lst ys3))
   have hq3:=Drew.upd (H:=H2) (p:=p) (.lst ys3) _ _ hq2 nqp
   generalize upd H2 p (.lst ys3)=H3 at FA3 d3 hq3
   obtain ⟨i,rfl⟩:∃ i:Nat,b=(i:Int):=⟨b.toNat,by omega⟩
   have hi:i < ws.length:=by omega
   refine ⟨_,rfl,q,_,rfl,.inl (SqL.of hq3),fun g hg=>?_⟩
   have s4:=same_new hg (.lst (ws.map V.str))
   have h4:upd H3 g (.lst (ws.map V.str)) g=some (.lst (ws.map V.str)):=upd_same
   have ng:=lst_p FA3 hg
   have hg0:=hg
   generalize upd H3 g (.lst (ws.map V.str))=H4 at s4 h4
   have a1:atI (ws.map V.str) ((i:Nat):Int)=some (.str ws[i]):=atI_nat (by rw [List.getElem?_map,List.getElem?_eq_getElem hi]; rfl)
   have a2:atI (ws.map V.str) ((j:Nat):Int)=some (.str ws[j]):=atI_nat (by rw [List.getElem?_map,List.getElem?_eq_getElem hj]; rfl)
   have m1:=List.getElem_mem hi
   have m2:=List.getElem_mem hj
   generalize ws[i]=zi at a1 m1
   generalize ws[j]=zj at a2 m2
   refine ⟨_,rfl,_,rfl,g,_,_,_,rfl,rfl,SqL.of h4,a1,_,rfl,_,rfl,g,_,_,_,rfl,rfl,SqL.of h4,a2,(by show 2≤sizeLine; decide),fun tp htp=>?_⟩
   have s5:=same_new htp (.tup [V.str zi,V.str zj])
   have h5t:upd H4 tp (.tup [V.str zi,V.str zj]) tp=some (.tup [V.str zi,V.str zj]):=upd_same
   have h5g:=s5 _ _ h4
   generalize upd H4 tp (.tup [V.str zi,V.str zj])=H5 at s5 h5t h5g
   have e35:=s4.trans s5
   refine ⟨tp,_,rfl,SqT.of h5t,rfl,_,_,rfl,?_⟩
   refine ⟨_,rfl,_,rfl,g,_,_,j,rfl,rfl,h5g,ixN_at (by rw [hml]; exact hj),?_⟩
   have e5:=upd_same (H:=H5) (a:=g) (o:=.lst ((ws.map V.str).set j (V.str zi)))
   have hl5:((ws.map V.str).set j (V.str zi)).length=ws.length:=by rw [List.length_set,hml]
   refine ⟨_,_,rfl,_,rfl,_,rfl,g,_,_,i,rfl,rfl,e5,ixN_at (by rw [hl5]; exact hi),rfl,?_⟩
   have hsets:((ws.map V.str).set j (V.str zi)).set i (V.str zj)=((ws.set j zi).set i zj).map V.str:=by rw [List.map_set,List.map_set]
   have s6:=same_put (same_put (e35) hg0 (.lst ((ws.map V.str).set j (V.str zi)))) hg0 (.lst (((ws.map V.str).set j (V.str zi)).set i (V.str zj)))
   refine ⟨_,rfl,k g ((ws.set j zi).set i zj) _ (by rw [upd_same,hsets]) ng (by rw [List.length_set,List.length_set]; exact hw0) (by rw [List.length_set,List.length_set]; omega) (fun y hy=>?_) (d3.trans (Drew.same s6)) (FA3.same s6)⟩
   rcases List.mem_or_eq_of_mem_set hy with y1 | y1
   ·rcases List.mem_or_eq_of_mem_set y1 with y2 | y2
    ·have:=hb y y2; omega
    ·rw [y2]; have:=hb _ m1; omega
   ·rw [y1]; have:=hb _ m2; omega
  ·refine ⟨_,rfl,_,rfl,_,rfl,q,_,rfl,SqL.of hq2,fun g1 hg1=>?_⟩
   rw [(cut_strs ws j (by omega)).1]
   have s5:=same_new hg1 (.lst ((ws.take j).map V.str))
   have h5:upd H2 g1 (.lst ((ws.take j).map V.str)) g1=some (.lst ((ws.take j).map V.str)):=upd_same
   have n1:=lst_p FA2 hg1
   generalize upd H2 g1 (.lst ((ws.take j).map V.str))=H5 at s5 h5
   refine ⟨_,rfl,p,sc,rfl,FA2.same s5,fun z H6 hz d6 FA6=>⟨(by show 1≤sizeLine; decide),fun g2 hg2=>?_⟩⟩
   have h56:=d6 _ _ h5 n1
   have hq6:=d6 _ _ (s5 _ _ hq2) nqp
   have s7:=same_new hg2 (.lst [V.str z])
   have h7:upd H6 g2 (.lst [V.str z]) g2=some (.lst [V.str z]):=upd_same
   generalize upd H6 g2 (.lst [V.str z])=H7 at s7 h7
   refine ⟨g1,g2,_,_,rfl,rfl,s7 _ _ h56,h7,(by rw [List.length_map,List.length_take]; show _+1≤_; rw [sizeLine_eq]; omega),fun g3 hg3=>?_⟩
   have s8:=same_new hg3 (.lst ((ws.take j).map V.str ++ [V.str z]))
   have h8:upd H7 g3 (.lst ((ws.take j).map V.str ++ [V.str z])) g3=some (.lst ((ws.take j).map V.str ++ [V.str z])):=upd_same
   generalize upd H7 g3 (.lst ((ws.take j).map V.str ++ [V.str z]))=H8 at s8 h8
   refine ⟨_,rfl,_,rfl,_,rfl,q,_,rfl,SqL.of (s8 _ _ (s7 _ _ hq6)),fun g4 hg4=>?_⟩
   rw [(cut_strs ws j (by omega)).2]
   have s9:=same_new hg4 (.lst ((ws.drop j).map V.str))
   have h9:upd H8 g4 (.lst ((ws.drop j).map V.str)) g4=some (.lst ((ws.drop j).map V.str)):=upd_same
   generalize upd H8 g4 (.lst ((ws.drop j).map V.str))=H9 at s9 h9
   have s69:=(s7.trans s8).trans s9
   refine ⟨g3,g4,_,_,rfl,rfl,s9 _ _ h8,h9,(by rw [List.length_append,List.length_map,List.length_map,List.length_take,List.length_drop]; show _+1+_≤_; rw [sizeLine_eq]; omega),fun g5 hg5=>?_⟩
   have s10:=same_new hg5 (.lst ((ws.take j).map V.str ++ [V.str z] ++ (ws.drop j).map V.str))
   exact mid z j (by omega) (by omega) (by omega) (by omega) g5 (by rw [upd_same,List.map_append,List.map_append]; rfl) (lst_p (FA6.same s69) hg5) ((((d2.trans (Drew.same s5)).trans d6).trans (Drew.same s69)).trans (Drew.same s10)) ((FA6.same s69).same s10)
  ·refine ⟨_,rfl,_,rfl,_,rfl,q,_,rfl,SqL.of hq2,fun g1 hg1=>?_⟩
   rw [(cut_strs ws j (by omega)).1]
   have s5:=same_new hg1 (.lst ((ws.take j).map V.str))
   have h5:upd H2 g1 (.lst ((ws.take j).map V.str)) g1=some (.lst ((ws.take j).map V.str)):=upd_same
   have n1:=lst_p FA2 hg1
   generalize upd H2 g1 (.lst ((ws.take j).map V.str))=H5 at s5 h5
   refine ⟨_,rfl,p,sc,rfl,FA2.same s5,fun z H6 hz d6 FA6=>⟨(by show 1≤sizeLine; decide),fun g2 hg2=>?_⟩⟩
   have h56:=d6 _ _ h5 n1
   have hq6:=d6 _ _ (s5 _ _ hq2) nqp
   have s7:=same_new hg2 (.lst [V.str z])
   have h7:upd H6 g2 (.lst [V.str z]) g2=some (.lst [V.str z]):=upd_same
   generalize upd H6 g2 (.lst [V.str z])=H7 at s7 h7
   refine ⟨g1,g2,_,_,rfl,rfl,s7 _ _ h56,h7,(by rw [List.length_map,List.length_take]; show _+1≤_; rw [sizeLine_eq]; omega),fun g3 hg3=>?_⟩
   have s8:=same_new hg3 (.lst ((ws.take j).map V.str ++ [V.str z]))
   have h8:upd H7 g3 (.lst ((ws.take j).map V.str ++ [V.str z])) g3=some (.lst ((ws.take j).map V.str ++ [V.str z])):=upd_same
   generalize upd H7 g3 (.lst ((ws.take j).map V.str ++ [V.str z]))=H8 at s8 h8
   refine ⟨_,rfl,_,rfl,_,_,rfl,rfl,_,rfl,q,_,rfl,SqL.of (s8 _ _ (s7 _ _ hq6)),fun g4 hg4=>?_⟩
   rw [show ((j:Nat):Int)+1=((j+1:Nat):Int) by omega,(cut_strs ws (j+1) (by omega)).2]
   have s9:=same_new hg4 (.lst ((ws.drop (j+1)).map V.str))
   have h9:upd H8 g4 (.lst ((ws.drop (j+1)).map V.str)) g4=some (.lst ((ws.drop (j+1)).map V.str)):=upd_same
   generalize upd H8 g4 (.lst ((ws.drop (j+1)).map V.str))=H9 at s9 h9
   have s69:=(s7.trans s8).trans s9
   refine ⟨g3,g4,_,_,rfl,rfl,s9 _ _ h8,h9,(by rw [List.length_append,List.length_map,List.length_map,List.length_take,List.length_drop]; show _+1+_≤_; rw [sizeLine_eq]; omega),fun g5 hg5=>?_⟩
   have s10:=same_new hg5 (.lst ((ws.take j).map V.str ++ [V.str z] ++ (ws.drop (j+1)).map V.str))
   exact mid z (j+1) (by omega) (by omega) (by omega) (by omega) g5 (by rw [upd_same,List.map_append,List.map_append]; rfl) (lst_p (FA6.same s69) hg5) ((((d2.trans (Drew.same s5)).trans d6).trans (Drew.same s69)).trans (Drew.same s10)) ((FA6.same s69).same s10)
inductive spWordTextI (vs:List V) (H:Hp) (Q:VK):Prop
 | mk (z:Str) (h1:vs=[.str z]) (h2:∀ H',Same H H'→Q (.str (dotS z)) H'):spWordTextI vs H Q
def spWordText:Sp:=fun vs H Q u3_=>spWordTextI vs H Q
theorem ok_law_word_text {f:Addr} {fd:FuncData} (F:Fun K "_law_word_text" "_law_word_text" s_law_word_text f fd) (Z:Blt mg):FnOk P w K mg base CX0 1 f fd ["_law_word"] spWordText:=by
 refine F.ok sc_law_word_text (fun vs H Q E h=>?_) (fun cdv A outer s H vs Q E hr h=>?_)
 ·obtain ⟨z,rfl,_⟩:=h
  rfl
 obtain ⟨z,rfl,k⟩:=h
 refine ⟨_,(pss_one (ps_ret (pe_ix (ix_listK (K:=K)) (pe_lst (pa_cons (pv 0) (pa_cons pe_str pa_nil))) (pe_callTy call_int1 (by rfl) Z.int bt_int (pa_cons (pe_cmpR op_eq (pv 0) pe_str (nomark _)) pa_nil)) (fun _ _=>rfl)))),?_⟩
 refine ⟨_,rfl,(by show 2≤sizeLine; decide),fun x hx=>?_⟩
 have s1:=same_new hx (.lst [V.str z,V.str "."])
 have h1:=upd_same (H:=H) (a:=x) (o:=.lst [V.str z,V.str "."])
 generalize upd H x (.lst [V.str z,V.str "."])=H1 at s1 h1
 have kk:=k H1 s1
 refine ⟨_,rfl,rfl,.inr ⟨_,rfl,?_⟩⟩
 unfold dotS at kk
 by_cases c:z.length=0
 ·have ez:z=Str.ofString "":=str_ext (List.eq_nil_of_length_eq_zero (by rw [len_list]; exact c))
  rw [if_pos c] at kk
  rw [decide_eq_true (congrArg V.str ez),if_pos rfl]
  exact ⟨x,_,_,_,rfl,rfl,SqL.of h1,atI_nat (j:=1) rfl,kk⟩
 ·rw [if_neg c] at kk
  rw [decide_eq_false (fun e=>c (by rw [V.str.inj e]; rfl)),if_neg (by decide)]
  exact ⟨x,_,_,_,rfl,rfl,SqL.of h1,atI_nat (j:=0) rfl,kk⟩
inductive spWordsLI (n:Nat) (vs:List V) (H:Hp) (Q:VK):Prop
 | mk (v:V) (W:Wi) (h1:vs=[v]) (h2:WAt H v W) (h3:W.dep < n) (h4:W.sz≤1000) (h5:∀ q H',H q=none→Same H H'→H' q=some (.lst (W.tks.map V.str))→Q (.ref q) H'):spWordsLI n vs H Q
def spWordsL (n:Nat):Sp:=fun vs H Q u3_=>spWordsLI n vs H Q
theorem words_step {n:Nat} {f:Addr} {fd:FuncData} (F:Fun K "_law_wish_words" "_law_wish_words" s_law_wish_words f fd) (Z:Blt mg) (C_law_word_text:Cal P w K mg base "_law_word_text" 1 ["_law_word"] spWordText) (C_law_wish_words:Cal P w K mg base "_law_wish_words" (n+1) ["_law_wish_here"] (spWordsL n)) :
  FnOk P w K mg base CX0 (n+2) f fd ["_law_wish_here"] (spWordsL (n+1)):=by
 refine F.ok sc_law_wish_words (fun vs H Q E h=>?_) (fun cdv A outer s H vs Q E hr h=>?_)
 ·obtain ⟨v,W,rfl,_⟩:=h
  rfl
 obtain ⟨v,W,rfl,hW,hdp,hz,k⟩:=h
 refine ⟨_,(pss_cons (ps_if (pt_cmpR op_eq (pe_ix (ix_tupK (K:=K)) (pv 0) pe_int (fun _ _=>rfl)) pe_str (nomark _)) 
    (pss_one (ps_ret (pe_lst (pa_cons pe_str (pa_cons (pe_c C_law_word_text (hr.mono (by omega)) (pa_cons (pe_ix (ix_tupK (K:=K)) (pv 0) pe_int (fun _ _=>rfl)) pa_nil)) pa_nil))))) pss_nil) 
   (pss_cons (ps_set (i:=1) sc_law_wish_words.nd (by rfl) (Or.inl (by rfl)) (pe_lst (pa_cons (pe_ix (ix_tupK (K:=K)) (pv 0) pe_int (fun _ _=>rfl)) pa_nil))) 
   (pss_cons (ps_for PassesOwn.never (by rfl) (pi_tupK (K:=K) (pe_slice (sl_tupG (K:=K)) (pv 0) (po_some pe_int) po_none)) (pg_name (i:=2) sc_law_wish_words.nd (by rfl) (Or.inl (by rfl))) 
    (pss_one (ps_expr (pe_bmK (K:=K) PySem.F.plainAttrs_list PySem.F.slot_list_extend PySem.F.type_list_extend mt_extend (pv 1) (pa_cons (pe_c C_law_wish_words hr (pa_cons (pv 2) pa_nil)) pa_nil))))) 
   (pss_one (ps_ret (pv 1)))))),?_⟩
 refine (let zz0:TS:=_; let zz1:TS:=tSeq _ zz0; let zz2:TS:=tSeq _ zz1; (?_:tSeq _ zz2 _ _ _))
 obtain ⟨a,us,rfl,ha,hw⟩:=hW.see
 have h0:atI (W.hd ++ us) 0=some (.str W.nm):=atI_nat (j:=0) (by rw [List.getElem?_append_left (hd_pos W)]; exact hd_nm W)
 refine ⟨_,rfl,a,_,_,_,rfl,rfl,SqT.of ha,h0,rfl,_,rfl,?_⟩
 cases hwd:W.wd with
 | some z=>
  obtain rfl:W=.has z:=by
   cases W with
   | has y=>exact congrArg Wi.has (Option.some.inj hwd)
   | lf b=>cases hwd
   | nt x=>cases hwd
   | bi b x y=>cases hwd
  refine ifY (show decide (V.str "has" = V.str "has")=true by decide +kernel) ⟨_,rfl,a,_,_,_,rfl,rfl,SqT.of ha,atI_nat (j:=1) rfl,z,rfl,fun H1 e1=>⟨(by show 2≤sizeLine; decide),fun q hq=>k q _ (none_of e1 hq) (e1.trans (same_new hq _)) ?_⟩⟩
  rw [upd_same,Wi.tks_kd,Wi.tk_has]
  rfl
 | none=>
  have hd1:W.hd=[V.str W.nm]:=by
   cases W with
   | has z=>cases hwd
   | lf b=>rfl
   | nt x=>rfl
   | bi b x y=>rfl
  have hul:us.length≤2:=by rw [hw.1]; cases W <;> simp [Wi.kd]
  refine ifN (nm_has hwd) ⟨_,rfl,a,_,_,_,rfl,rfl,SqT.of ha,h0,(by show 1≤sizeLine; decide),fun fp hfp=>?_⟩
  have s1:=same_new hfp (.lst [V.str W.nm])
  have h1f:=upd_same (H:=H) (a:=fp) (o:=.lst [V.str W.nm])
  generalize upd H fp (.lst [V.str W.nm])=H1 at s1 h1f
  refine ⟨_,rfl,_,rfl,a,_,rfl,s1 _ _ ha,fun sp H2 s2 h2s=>?_⟩
  have ec:cutV (W.hd ++ us) (some 1) none=us:=by
   have:=cut_tail (xs:=W.hd) (us:=us)
   rw [hd1] at this ⊢
   exact this
  rw [ec] at h2s
  have e2:=s1.trans s2
  have w2:=hw.keep (Tk.same e2)
  have h2f:=s2 _ _ h1f
  have tl:=W.tks_len
  have tkd:=W.tks_kd
  have ttk:=Wi.tk_no hwd
  refine ⟨sp,rfl,⟨_,SqT.of h2s⟩,?_⟩
  refine for_tup (K:=K) (a:=sp) (xs:=us) (fun j σ H3=>∃ v2,σ=[some (.ref a),some (.ref fp),v2]∧Same H H3∧H3 sp=some (.tup us)∧H3 fp=some (.lst ((W.tk ++ (W.kd.take j).flatMap Wi.tks).map V.str))∧Ws H3 us W.kd)
   ⟨none,rfl,e2,h2s,by rw [ttk,List.take_zero]; exact h2f,w2⟩ (fun j σ H3 _ h=>?_) ?_ ?_
  ·obtain ⟨_,_,_,h3,_⟩:=h
   exact SqT.of h3
  ·rintro j x σ H3 hx ⟨v2,rfl,e3,h3s,h3f,w3⟩
   have hj:j < W.kd.length:=by rw [← hw.1]; exact (List.getElem?_eq_some_iff.mp hx).1
   have hkj:W.kd[j]? = some W.kd[j]:=List.getElem?_eq_getElem hj
   have hm:W.kd[j]∈W.kd:=List.getElem_mem hj
   have hdj:=Wi.kd_dep hm
   have hsj:=Wi.kd_sz hm
   refine ⟨_,rfl,.inl ⟨rfl,_,SqL.of h3f⟩,_,rfl,x,W.kd[j],rfl,w3.2 j x _ hx hkj,by omega,by omega,fun q H4 hq e4 h4q=>?_⟩
   have h4f:=e4 _ _ h3f
   have h4s:=e4 _ _ h3s
   have w4:=w3.keep (Tk.same e4)
   have hlen:(W.tk ++ (W.kd.take j).flatMap Wi.tks).length+W.kd[j].tks.length≤W.tks.length:=by
    rw [tkd,List.length_append,List.length_append]
    have e:W.kd.flatMap Wi.tks=(W.kd.take j).flatMap Wi.tks ++ (W.kd[j].tks ++ (W.kd.drop (j+1)).flatMap Wi.tks):=by
     rw [← List.flatMap_cons,← List.drop_eq_getElem_cons hj,← List.flatMap_append,List.take_append_drop]
    rw [e,List.length_append,List.length_append]
    omega
   refine ⟨fp,q,_,_,rfl,rfl,h4f,h4q,(by rw [List.length_map,List.length_map,sizeLine_eq]; omega),?_⟩
   have K5:=Tk.lst h4f (.lst ((W.tk ++ (W.kd.take j).flatMap Wi.tks).map V.str ++ W.kd[j].tks.map V.str))
   refine ⟨_,rfl,same_put (e3.trans e4) hfp _,K5 _ _ h4s,?_,w4.keep K5⟩
   rw [upd_same,List.take_add_one,hkj,List.flatMap_append,← List.map_append,List.append_assoc]
   simp
  ·rintro σ H3 ⟨v2,rfl,e3,h3s,h3f,w3⟩
   rw [hw.1,List.take_length,← tkd] at h3f
   exact ⟨_,rfl,k fp H3 hfp e3 h3f⟩
theorem words_none {f:Addr} {fd:FuncData}:FnOk P w K mg base CX0 1 f fd ["_law_wish_here"] (spWordsL 0):=by
 have no:∀ vs H Q E,¬ spWordsL 0 vs H Q E:=fun vs H Q E h=>by
  obtain ⟨v,W,_,_,hd,_⟩:=h
  omega
 exact ⟨fun vs H Q E h=>absurd h (no vs H Q E),fun A outer s H args us vs Q E _ _ _ _ h=>absurd h (no vs H Q E)⟩
theorem ok_law_wish_words {f:Addr} {fd:FuncData} (F:Fun K "_law_wish_words" "_law_wish_words" s_law_wish_words f fd) (b:Binds K fd ["_law_wish_here"] []) (m:mg "_law_wish_words" = some (.ref f)) (Z:Blt mg) (C_law_word_text:Cal P w K mg base "_law_word_text" 1 ["_law_word"] spWordText):∀ n:Nat,FnOk P w K mg base CX0 (n+1) f fd ["_law_wish_here"] (spWordsL n)
 | 0=>words_none
 | n+1=>words_step F Z C_law_word_text ⟨f,fd,ok_law_wish_words F b m Z C_law_word_text n,m,F.kp,b⟩
theorem alpha_wB (c:Nat):decide (c∈(Str.ofString "abcdefghijklmnopqrstuvwxyz").cps.toList)=wB c:=by
 rw [show (Str.ofString "abcdefghijklmnopqrstuvwxyz").cps.toList=List.range' 97 26 from by decide +kernel]
 unfold wB
 rw [Bool.eq_iff_iff,Bool.and_eq_true,decide_eq_true_eq,decide_eq_true_eq,decide_eq_true_eq,List.mem_range'_1]
 omega
inductive spLIsWI (vs:List V) (H:Hp) (Q:VK):Prop
 | mk (z:Str) (h1:vs=[.str z]) (h2:z.length≤1000) (h3:∀ H',Same H H'→Q (.bl (wOk z)) H'):spLIsWI vs H Q
def spLIsW:Sp:=fun vs H Q u3_=>spLIsWI vs H Q
theorem ok_law_is_word {f:Addr} {fd:FuncData} (F:Fun K "_law_is_word" "_law_is_word" s_law_is_word f fd) (Z:Blt mg):FnOk P w K mg base CX0 1 f fd ["_law_word"] spLIsW:=by
 refine F.ok sc_law_is_word (fun vs H Q E h=>?_) (fun cdv A outer s H vs Q E hr h=>?_)
 ·obtain ⟨z,rfl,_⟩:=h
  rfl
 obtain ⟨z,rfl,hz,k⟩:=h
 refine ⟨_,(pss_one (ps_ret (pe_and (pe_cmpR op_ne (pv 0) pe_str (nomark _)) (pe_one (pe_callB (call_allK (K:=K)) (by rfl) Z.all bt_all (pa_cons (pe_comp (sc:=defScope s_law_is_word) (Nm:=["_law_word"]) (own:=["_law_sign"]) (fr:=[]) ⟨rfl,by decide +kernel,by decide +kernel,by decide +kernel,by decide +kernel⟩ (by rfl) (gfr_name (by decide)) (pi_str (pv 0)) (fun d=>(pg_name (i:=0) nd_law_is_word_0 (by rfl) (Or.inl (by rfl)))) (fun d=>pts_nil) (fun d=>(pe_cmpR op_in_str (pv 0) pe_str (by with_unfolding_all rfl)))) pa_nil)))))),?_⟩
 have hl:=len_list z
 refine ⟨_,rfl,rfl,_,rfl,?_⟩
 by_cases c:z=Str.ofString ""
 ·have e0:wOk z=false:=by rw [c]; decide +kernel
  rw [e0] at k
  refine ifN (by rw [decide_eq_true (congrArg V.str c)]; rfl) (k _ (Same.refl _))
 refine ifY (by rw [decide_eq_false (fun e=>c (V.str.inj e))]; rfl) ?_
 have hz0:z.length≠0:=fun e=>c (str_ext (by rw [List.eq_nil_of_length_eq_zero (show z.cps.toList.length=0 by rw [len_list]; exact e)]; decide +kernel))
 have e1:wOk z=(z.cps.toList.map wB).all id:=by
  unfold wOk
  rw [decide_eq_true hz0,Bool.true_and]
  rfl
 rw [e1] at k
 refine ⟨_,rfl,z,rfl,?_⟩
 refine comp_str (cs:=z.cps.toList) (Seen H wB z.cps.toList) (by rw [hl]; exact small1000 hz) ⟨rfl,Nat.zero_le _,Same.refl _⟩ seen_len
  (fun i acc H2 c hc hp=>cyes ⟨_,rfl,_,_,rfl,rfl,?_⟩) (fun acc H2 hp l hl2=>?_)
 ·have e2:(!(Builtin.Str.occurrences (Str.ofString "abcdefghijklmnopqrstuvwxyz") ⟨#[c]⟩ 0 (Str.ofString "abcdefghijklmnopqrstuvwxyz").length 1).isEmpty)=wB c:=(StrLaws.found_one _ c).trans (alpha_wB c)
  have:=seen_step hc hp
  rw [← e2] at this
  exact this
 obtain ⟨rfl,_,e⟩:=hp
 rw [List.take_length]
 exact ⟨l,_,rfl,SqL.of upd_same,k _ (e.trans (same_new hl2 _))⟩
def toldD (ws:List Str):Dt:=match scan ws 1 false 0 with
 | some m=>.tup [.str (Str.ofString "text"),.int ((m:Nat):Int)]
 | none=>.tup [.str (Str.ofString "wish"),.lst (ws.map Dt.str)]
theorem den_two {H:Hp} {a:Addr} {x y:V} {d e:Dt} (h:H a=some (.tup [x,y])) (hx:Den H x d) (hy:Den H y e):Den H (.ref a) (.tup [d,e]):=by
 refine .tup h (by show 2≤1000000; decide) rfl fun i u v hu hv=>?_
 match i,hu,hv with
 | 0,hu,hv=>cases hu; cases hv; exact hx
 | 1,hu,hv=>cases hu; cases hv; exact hy
 | i+2,hu,_=>simp at hu
theorem den_strs {H:Hp} {a:Addr} {ws:List Str} (h:H a=some (.lst (ws.map V.str))) (hl:ws.length≤1000000):Den H (.ref a) (.lst (ws.map Dt.str)):=by
 refine .lst h (by rw [List.length_map]; exact hl) (by rw [List.length_map,List.length_map]) fun i u v hu hv=>?_
 rw [List.getElem?_map] at hu hv
 cases e:ws[i]? with
 | none=>rw [e] at hu; cases hu
 | some z=>
  rw [e] at hu hv
  cases hu
  cases hv
  exact .str z
theorem fold_strs (ws:List Str):((ws.map Dt.str).map Dt.dep).foldr max 0=0:=by
 induction ws with
 | nil=>rfl
 | cons z ws ih=>
  rw [List.map_cons,List.map_cons,List.foldr_cons,ih]
  simp [Dt.dep]
theorem told_tup (ws:List Str):∃ ds,toldD ws=.tup ds∧(Dt.tup ds).dep≤150:=by
 unfold toldD
 cases scan ws 1 false 0 with
 | some m=>exact ⟨_,rfl,by simp [Dt.dep]⟩
 | none=>
  refine ⟨_,rfl,?_⟩
  have:=fold_strs ws
  simp only [Dt.dep,List.map_cons,List.map_nil,List.foldr_cons,List.foldr_nil]
  rw [this]
  decide
inductive spLReadI (vs:List V) (H:Hp) (Q:VK):Prop
 | mk (q:Addr) (ws:List Str) (h1:vs=[.ref q]) (h2:H q=some (.lst (ws.map V.str))) (h3:ws.length≤1000) (h4:(∀ z∈ws,z.length≤300)) (h5:∀ v H',Same H H'→Den H' v (toldD ws)→Q v H'):spLReadI vs H Q
def spLRead:Sp:=fun vs H Q u3_=>spLReadI vs H Q
theorem inV_names (z:Str):inV (V.str z) [V.str "has",V.str "not",V.str "and",V.str "or",V.str "always",V.str "never"]=decide (z∈names):=by
 rw [Bool.eq_iff_iff,decide_eq_true_eq]
 unfold inV names
 simp [eqV]
 constructor
 ·rintro (h | h | h | h | h | h) <;> simp [← h]
 ·rintro (h | h | h | h | h | h) <;> simp [h]
abbrev six:List Str:=[Str.ofString "has",Str.ofString "not",Str.ofString "and",Str.ofString "or",Str.ofString "always",Str.ofString "never"]
theorem ar_get {z:Str} (h:z∈names):(valV (mergeK [] [(Sum.inr (Str.ofString "not"),V.int 1),(Sum.inr (Str.ofString "and"),V.int 2),(Sum.inr (Str.ofString "or"),V.int 2)]) (Sum.inr z)).getD (.int 0)=.int ((arN z:Nat):Int):=by
 have:∀ y∈names,(valV (mergeK [] [(Sum.inr (Str.ofString "not"),V.int 1),(Sum.inr (Str.ofString "and"),V.int 2),(Sum.inr (Str.ofString "or"),V.int 2)]) (Sum.inr y)).getD (.int 0)=.int ((arN y:Nat):Int):=by decide +kernel
 exact this z h
def lrI (q:Addr) (ws:List Str) (H:Hp) (i:Nat) (σ:L2.St) (H1:Hp):Prop:=∃ (d:Nat) (h:Bool) (v3 v4:Option V),σ=[some (.ref q),some (.int ((d:Nat):Int)),some (.bl h),v3,v4]∧Same H H1∧H1 q=some (.lst (ws.map V.str))∧scan (ws.drop i) d h i=scan ws 1 false 0
theorem ok_law_read {f:Addr} {fd:FuncData} (F:Fun K "_law_read" "_law_read" s_law_read f fd) (Z:Blt mg) (C_law_is_word:Cal P w K mg base "_law_is_word" 1 ["_law_word"] spLIsW):FnOk P w K mg base CX0 2 f fd ["_law_words"] spLRead:=by
 refine F.ok sc_law_read (fun vs H Q E h=>?_) (fun cdv A outer s H vs Q E hr h=>?_)
 ·obtain ⟨q,ws,rfl,_⟩:=h
  rfl
 obtain ⟨q,ws,rfl,hq,hwl,hz,k⟩:=h
 refine ⟨_,(pss_cons (ps_set (i:=1) sc_law_read.nd (by rfl) (Or.inl (by rfl)) pe_int) 
   (pss_cons (ps_set (i:=2) sc_law_read.nd (by rfl) (Or.inl (by rfl)) pe_bl) 
   (pss_cons (ps_for PassesOwn.never (by rfl) (pi_enum (K:=K) (by rfl) Z.enumerate (pv 0)) (pg_tupK (K:=K) (n:=2) (by rfl) (pgs_cons (pg_name (i:=3) sc_law_read.nd (by rfl) (Or.inl (by rfl))) (pgs_cons (pg_name (i:=4) sc_law_read.nd (by rfl) (Or.inl (by rfl))) pgs_nil))) 
    (pss_one (ps_if (pt_truthK (K:=K) (pv 2) (fun _=>rfl)) 
     (pss_cons (ps_if (PW.pt (pw_and (pt_cmpR op_ne (pv 4) pe_str (nomark _)) (pw_and1 (pt_not (pt_truthK (K:=K) (pe_c C_law_is_word (hr.mono (by decide)) (pa_cons (pv 4) pa_nil)) (fun _=>rfl)))))) 
      (pss_one (ps_ret (pe_tup (pa_cons pe_str (pa_cons (pv 3) pa_nil))))) pss_nil) 
     (pss_one (ps_set (i:=2) sc_law_read.nd (by rfl) (Or.inl (by rfl)) pe_bl))) 
     (pss_one (ps_if (PW.pt (pw_or (pt_cmpR op_eq (pv 1) pe_int (nomark _)) (pw_or1 (pt_cmpR (op_notInK (K:=K)) (pv 4) (pe_tup (pa_consts (.cons (.cons (.cons (.cons (.cons (.cons .nil)))))))) (by with_unfolding_all rfl))))) 
      (pss_one (ps_ret (pe_tup (pa_cons pe_str (pa_cons (pv 3) pa_nil))))) 
      (pss_cons (ps_set (i:=2) sc_law_read.nd (by rfl) (Or.inl (by rfl)) (pe_cmpR op_eq (pv 4) pe_str (nomark _))) 
      (pss_one (ps_set (i:=1) sc_law_read.nd (by rfl) (Or.inl (by rfl)) (pe_op op_add (pe_op op_sub (pv 1) pe_int) (pe_dget2 (hu_of hr) (pe_disp (pps_cons pe_str pe_int (pps_cons pe_str pe_int (pps_cons pe_str pe_int pps_nil))) (by rfl) (by rfl) (by intro h; cases h) (by show 3≤15; decide)) (pv 4) pe_int ⟨rfl,rfl,rfl,rfl⟩)))))))))) 
   (pss_cons (ps_if (PW.pt (pw_or (pt_truthK (K:=K) (pv 2) (fun _=>rfl)) (pw_or1 (pt_cmpR op_gt (pv 1) pe_int (nomark _))))) 
    (pss_one (ps_ret (pe_tup (pa_cons pe_str (pa_cons (pe_callB (call_lenK (K:=K)) (by rfl) Z.len bt_len (pa_cons (pv 0) pa_nil)) pa_nil))))) pss_nil) 
   (pss_one (ps_ret (pe_tup (pa_cons pe_str (pa_cons (pv 0) pa_nil))))))))),?_⟩
 refine (let zz0:TS:=_; let zz1:TS:=tSeq _ zz0; let zz2:TS:=_; let zz3:TS:=tSeq _ zz2; let zz4:TS:=_; let zz5:TS:=tSeq _ zz4; let zz6:TS:=(tIfS _ _ zz5); let zz7:TS:=(tIfS _ zz3 zz6); let zz8:TS:=tSeq (tFor _ _ zz7) zz1; let zz9:TS:=tSeq _ zz8; (?_:tSeq _ zz9 _ _ _))
 have hml:(ws.map V.str).length=ws.length:=List.length_map ..
 have bad:∀ {H1:Hp} {m:Nat},Same H H1→scan ws 1 false 0=some m→∀ g,H1 g=none→Q (.ref g) (upd H1 g (.tup [V.str "text",V.int ((m:Nat):Int)])):=fun {H1 m} e hs g hg=>by
  refine k _ _ (e.trans (same_new hg _)) ?_
  unfold toldD
  rw [hs]
  exact den_two upd_same (.str _) (.int _)
 refine ⟨_,rfl,q,ws.map V.str,rfl,.inl ⟨SqL.of hq,?_⟩⟩
 refine for_enum (Sq:=fun H xs=>SqL K H q xs) (xs:=ws.map V.str) (lrI q ws H) ⟨1,false,none,none,rfl,Same.refl _,hq,rfl⟩ (fun i σ H1 _ h=>?_) ?_ ?_
 ·obtain ⟨_,_,_,_,_,_,h1,_⟩:=h
  exact SqL.of h1
 ·rintro i x σ H1 p hx ⟨d,h,v3,v4,rfl,e1,h1q,hsc⟩ hp
  generalize hR:scan ws 1 false 0=R at hsc
  rw [List.getElem?_map] at hx
  cases hwi:ws[i]? with
  | none=>rw [hwi] at hx; cases hx
  | some z=>
   rw [hwi] at hx
   cases hx
   have hzl:=hz z (List.mem_of_getElem? hwi)
   rw [drop_at hwi] at hsc
   have s2:=same_new hp (.tup [V.int (i:Int),V.str z])
   refine ⟨p,_,rfl,SqT.of upd_same,rfl,_,_,rfl,_,_,rfl,rfl,?_⟩
   have h2q:=s2 _ _ h1q
   have e2:=e1.trans s2
   generalize upd H1 p (.tup [V.int (i:Int),V.str z])=H2 at s2 h2q e2
   refine ⟨_,rfl,_,rfl,?_⟩
   cases h with
   | true=>
    unfold scan at hsc
    refine ifY rfl ?_
    by_cases c1:z=Str.ofString "."
    ·rw [if_pos (.inl c1)] at hsc
     refine ⟨_,rfl,rfl,_,rfl,ifN (by rw [decide_eq_true (congrArg V.str c1)]; rfl) ?_⟩
     exact ifN rfl ⟨d,false,_,_,rfl,e2,h2q,hsc.trans hR.symm⟩
    ·refine ⟨_,rfl,rfl,_,rfl,ifY (by rw [decide_eq_false (fun e=>c1 (V.str.inj e))]; rfl) ?_⟩
     refine ⟨_,rfl,z,rfl,by omega,fun H3 e3=>⟨_,rfl,?_⟩⟩
     have h3q:=e3 _ _ h2q
     cases c2:wOk z with
     | true=>
      rw [if_pos (.inr c2)] at hsc
      exact iteF ⟨d,false,_,_,rfl,e2.trans e3,h3q,hsc.trans hR.symm⟩
     | false=>
      rw [if_neg (fun z=>z.elim c1 (by rw [c2]; decide))] at hsc
      exact iteT ⟨_,rfl,(by show 2≤sizeLine; decide),fun g hg=>bad (e2.trans e3) (hR.trans hsc.symm) g hg⟩
   | false=>
    unfold scan at hsc
    refine ifN rfl ?_
    refine ⟨_,rfl,rfl,_,rfl,?_⟩
    by_cases c0:d=0
    ·rw [if_pos (.inl c0)] at hsc
     exact ifY (by rw [c0]; rfl) (iteT ⟨_,rfl,(by show 2≤sizeLine; decide),fun g hg=>bad e2 (hR.trans hsc.symm) g hg⟩)
    ·refine ifN (decide_eq_false fun e=>c0 (by have:=V.int.inj e; omega)) ?_
     refine ⟨_,rfl,(by show 6≤sizeLine; decide),fun tp htp=>?_⟩
     generalize hsix:List.map V.str six=L6
     have s3:=same_new htp (.tup L6)
     have h3t:upd H2 tp (.tup L6) tp=some (.tup L6):=upd_same
     have h3q:=s3 _ _ h2q
     refine ⟨tp,_,rfl,.inr (SqT.of h3t),rfl,(by rw [← hsix]; rfl),?_⟩
     have e3:=e2.trans s3
     generalize upd H2 tp (.tup L6)=H3 at s3 h3t h3q e3
     refine ⟨_,rfl,?_⟩
     have hL6:inV (V.str z) L6=decide (z∈names):=by rw [← hsix]; exact inV_names z
     have ei:(if true=true then !inV (V.str z) L6 else inV (V.str z) L6) = !decide (z∈names):=by rw [hL6]; rfl
     rw [ei]
     by_cases c1:z∈names
     ·rw [if_neg (fun h=>h.elim c0 (fun h=>h c1))] at hsc
      rw [decide_eq_true c1]
      refine iteF ?_
      refine ⟨_,rfl,rfl,?_⟩
      refine ⟨_,rfl,_,_,rfl,rfl,fun dp hdp=>⟨upd_same,[(Sum.inr (Str.ofString "not"),V.int 1),(Sum.inr (Str.ofString "and"),V.int 2),(Sum.inr (Str.ofString "or"),V.int 2)],rfl,by decide,dp,rfl,.inl ⟨_,.inl upd_same⟩,_,rfl,_,.inl ⟨_,Sum.inr z,.inl upd_same,rfl,rfl⟩,?_⟩⟩
      rw [ar_get c1]
      have s4:∀ o o',Same H3 (upd (upd H3 dp o) dp o'):=fun o o'=>by rw [upd_upd]; exact same_new hdp _
      refine ⟨_,_,rfl,rfl,d - 1+arN z,decide (z=Str.ofString "has"),some (.int (i:Int)),some (.str z),?_,e3.trans (s4 _ _),s4 _ _ _ _ h3q,hsc.trans hR.symm⟩
      have ea:((d:Nat):Int) - 1+((arN z:Nat):Int)=((d - 1+arN z:Nat):Int):=by omega
      have eh:decide (V.str z=V.str (Str.ofString "has"))=decide (z=Str.ofString "has"):=by
       rw [Bool.eq_iff_iff,decide_eq_true_eq,decide_eq_true_eq]
       exact ⟨fun e=>V.str.inj e,fun e=>congrArg V.str e⟩
      rw [← ea,← eh]
      rfl
     ·rw [if_pos (.inr c1)] at hsc
      rw [decide_eq_false c1]
      exact iteT ⟨_,rfl,(by show 2≤sizeLine; decide),fun g hg=>bad e3 (hR.trans hsc.symm) g hg⟩
 ·rintro σ H1 ⟨d,h,v3,v4,rfl,e1,h1q,hsc⟩
  generalize hR:scan ws 1 false 0=R at hsc
  rw [hml,List.drop_length] at hsc
  unfold scan at hsc
  refine ⟨_,rfl,_,rfl,?_⟩
  cases h with
  | true=>
   rw [if_pos (.inl rfl)] at hsc
   refine ifY rfl (iteT ⟨_,rfl,q,_,rfl,.inl (SqL.of h1q),(by show 2≤sizeLine; decide),fun g hg=>?_⟩)
   rw [hml]
   exact bad e1 (hR.trans hsc.symm) g hg
  | false=>
   refine ifN rfl ⟨_,rfl,_,_,rfl,rfl,_,rfl,?_⟩
   by_cases c0:0 < d
   ·rw [if_pos (.inr c0)] at hsc
    refine ifY (decide_eq_true (show (0:Int) < ((d:Nat):Int) by omega)) ⟨_,rfl,q,_,rfl,.inl (SqL.of h1q),(by show 2≤sizeLine; decide),fun g hg=>?_⟩
    rw [hml]
    exact bad e1 (hR.trans hsc.symm) g hg
   ·rw [if_neg (fun h=>h.elim (by decide) c0)] at hsc
    refine ifN (decide_eq_false (show ¬ (0:Int) < ((d:Nat):Int) by omega)) ⟨_,rfl,(by show 2≤sizeLine; decide),fun g hg=>?_⟩
    refine k _ _ (e1.trans (same_new hg _)) ?_
    unfold toldD
    rw [hR,← hsc]
    exact den_two upd_same (.str _) (den_strs (same_new hg _ _ _ h1q) (by omega))
inductive spSomeLI (vs:List V) (H:Hp) (Q:VK):Prop
 | mk (p sc:Addr) (h1:vs=[.ref p]) (h2:FlowAt H p sc) (h3:∀ z H',1≤z.length→z.length≤3→(∀ c∈z.cps.toList,97≤c∧c≤122)→Drew H H' p→FlowAt H' p sc→Q (.str z) H'):spSomeLI vs H Q
def spSomeL:Sp:=fun vs H Q u3_=>spSomeLI vs H Q
theorem ok_law_some_letters {f:Addr} {fd:FuncData} (F:Fun K "_law_some_letters" "_law_some_letters" s_law_some_letters f fd) (Z:Blt mg) (C_law_pick:Cal P w K mg base "_law_pick" 1 ["_law_flow_here","_law_many"] spPick) (C_law_letters:Cal P w K mg base "_law_letters" 2 ["_law_flow_here","_law_many"] spLetters):FnOk P w K mg base CX0 3 f fd ["_law_flow_here"] spSomeL:=by
 refine F.ok sc_law_some_letters (fun vs H Q E h=>?_) (fun cdv A outer s H vs Q E hr h=>?_)
 ·obtain ⟨p,sc,rfl,_⟩:=h
  rfl
 obtain ⟨p,sc,rfl,FA,k⟩:=h
 refine ⟨_,(pss_one (ps_ret (pe_c C_law_letters (hr.mono (by decide)) (pa_cons (pv 0) (pa_cons (pe_ix (ix_listK (K:=K)) (pe_lst (pa_cons pe_int (pa_cons pe_int (pa_cons pe_int (pa_cons pe_int (pa_cons pe_int pa_nil)))))) (pe_c C_law_pick (hr.mono (by decide)) (pa_cons (pv 0) (pa_cons pe_int pa_nil))) (fun _ _=>rfl)) pa_nil))))),?_⟩
 refine ⟨_,rfl,(by show 5≤sizeLine; decide),fun x hx=>⟨_,rfl,p,sc,5,rfl,by decide,by decide,FA.same (same_new hx _),fun r xs hr0 hr1 hx1=>?_⟩⟩
 have nxp:x≠p:=by
  obtain ⟨ys,h1,_⟩:=FA.here
  exact (ne_of_none h1 hx).symm
 have hxi:upd (upd H x (.lst [.int 1,.int 2,.int 2,.int 3,.int 3])) p (.lst xs) x=some (.lst [.int 1,.int 2,.int 2,.int 3,.int 3]):=(upd_ne nxp).trans upd_same
 have FA1:=(FA.same (same_new hx (.lst [.int 1,.int 2,.int 2,.int 3,.int 3]))).go hx1
 have dr1:Drew H (upd (upd H x (.lst [.int 1,.int 2,.int 2,.int 3,.int 3])) p (.lst xs)) p:=drew_go (Drew.same (same_new hx _)) _
 generalize upd (upd H x (.lst [.int 1,.int 2,.int 2,.int 3,.int 3])) p (.lst xs)=H1 at hxi FA1 dr1
 obtain ⟨mn,hmn,hm⟩:∃ y:Int,atI [V.int 1,V.int 2,V.int 2,V.int 3,V.int 3] r=some (.int y)∧(y=1∨y=2∨y=3):=by
  have:r=0∨r=1∨r=2∨r=3∨r=4:=by omega
  rcases this with z | z | z | z | z
  ·subst z; exact ⟨1,atI_nat (j:=0) rfl,by decide⟩
  ·subst z; exact ⟨2,atI_nat (j:=1) rfl,by decide⟩
  ·subst z; exact ⟨2,atI_nat (j:=2) rfl,by decide⟩
  ·subst z; exact ⟨3,atI_nat (j:=3) rfl,by decide⟩
  ·subst z; exact ⟨3,atI_nat (j:=4) rfl,by decide⟩
 refine ⟨x,_,_,_,rfl,rfl,SqL.of hxi,hmn,p,sc,mn,rfl,by omega,by omega,FA1,fun l H2 hl dr2 FA2=>?_⟩
 have hll:=len_list l
 have hlen:l.cps.toList.length=mn.toNat:=hl.1
 exact k l H2 (by omega) (by omega) hl.2.2 (dr1.trans dr2) FA2
inductive spAnyWI (vs:List V) (H:Hp) (Q:VK):Prop
 | mk (p sc:Addr) (l:Str) (h1:vs=[.ref p,.str l]) (h2:0 < l.length) (h3:l.length≤1000) (h4:FlowAt H p sc) (h5:∀ v W H',WAt H' v W→W.sz≤10→W.dep≤5→W.ok (fun z=>(z.cps.toList.length:Int)≤3∧∀ c∈z.cps.toList,c∈l.cps.toList)→Drew H H' p→FlowAt H' p sc→Q v H'):spAnyWI vs H Q
def spAnyW:Sp:=fun vs H Q u3_=>spAnyWI vs H Q
theorem ok_law_any_wish {f:Addr} {fd:FuncData} (F:Fun K "_law_any_wish" "_law_any_wish" s_law_any_wish f fd) (Z:Blt mg) (C_law_pick:Cal P w K mg base "_law_pick" 1 ["_law_flow_here","_law_many"] spPick) (C_law_wish:Cal P w K mg base "_law_wish" 7 ["_law_flow_here","_law_letters_here","_law_room","_law_deep","_law_most"] (spWish 6)):FnOk P w K mg base CX0 8 f fd ["_law_flow_here","_law_letters_here"] spAnyW:=by
 refine F.ok sc_law_any_wish (fun vs H Q E h=>?_) (fun cdv A outer s H vs Q E hr h=>?_)
 ·obtain ⟨p,sc,l,rfl,_⟩:=h
  rfl
 obtain ⟨p,sc,l,rfl,hl0,hl1,FA,k⟩:=h
 refine ⟨_,(pss_one (ps_ret (pe_c C_law_wish (hr.mono (by decide)) (pa_cons (pv 0) (pa_cons (pv 1) (pa_cons (pe_ix (ix_listK (K:=K)) (pe_lst (pa_cons pe_int (pa_cons (pe_op op_add pe_int (pe_c C_law_pick (hr.mono (by decide)) (pa_cons (pv 0) (pa_cons pe_int pa_nil)))) pa_nil))) (pe_c C_law_pick (hr.mono (by decide)) (pa_cons (pv 0) (pa_cons pe_int pa_nil))) (fun _ _=>rfl)) (pa_cons pe_int (pa_cons pe_int pa_nil)))))))),?_⟩
 refine ⟨_,rfl,_,rfl,_,rfl,p,sc,10,rfl,by decide,by decide,FA,fun r xs hr0 hr1 hx1=>⟨_,_,rfl,rfl,(by show 2≤sizeLine; decide),fun x hx=>?_⟩⟩
 have FA1:=FA.go hx1
 have d1:Drew H (upd H p (.lst xs)) p:=Drew.upd _
 generalize upd H p (.lst xs)=H1 at FA1 d1 hx
 have s2:=same_new hx (.lst [V.int 10,V.int (1+r)])
 have h2x:=upd_same (H:=H1) (a:=x) (o:=.lst [V.int 10,V.int (1+r)])
 have FA2:=FA1.same s2
 have nxp:x≠p:=by
  obtain ⟨ys,h1,_⟩:=FA1.here
  exact (ne_of_none h1 hx).symm
 have d2:=d1.trans (Drew.same s2)
 generalize hH2:upd H1 x _=H2 at s2 h2x FA2 d2
 refine ⟨_,rfl,p,sc,2,rfl,by decide,by decide,FA2,fun r2 xs2 h20 h21 hx2=>?_⟩
 have FA3:=FA2.go hx2
 have h3x:=(upd_ne (H:=H2) (o:=.lst xs2) nxp).trans h2x
 have d3:=drew_go d2 (.lst xs2)
 generalize upd H2 p (.lst xs2)=H3 at FA3 h3x d3
 obtain ⟨m,hm,hm0,hm1⟩:∃ m:Int,atI [V.int 10,V.int (1+r)] r2=some (.int m)∧1≤m∧m≤10:=by
  have:r2=0∨r2=1:=by omega
  rcases this with z | z
  ·subst z; exact ⟨10,atI_nat (j:=0) rfl,by decide,by decide⟩
  ·subst z; exact ⟨1+r,atI_nat (j:=1) rfl,by omega,by omega⟩
 refine ⟨x,_,_,_,rfl,rfl,SqL.of h3x,hm,p,sc,l,m,5,3,rfl,hl0,hl1,by omega,by omega,by decide,by decide,by decide,by decide,FA3,fun v W H' hW hz hd hok dr FA'=>?_⟩
 exact k v W H' hW (by omega) (by omega) hok (d3.trans dr) FA'
theorem dict_const (P:Program) (w:World) (ep:Nat) (rows:List (Str × Tok × Int × Tok)) (nd:(rows.map (·.1)).Nodup) :
  ∃ vs,Obj.IsDictOf (mixKind P w) { cls:=.type "dict",data:=.dict (rows.map fun r=>(⟨PyData.keyHash w.params r.1,.str r.1 r.2.1,.int r.2.2.1 r.2.2.2⟩:DictEntry)).toArray ep } vs∧KV (rows.map fun r=>(Sum.inr r.1,V.int r.2.2.1)) vs:=by
 refine ⟨rows.map fun r=>(Sum.inr r.1,Value.int r.2.2.1 r.2.2.2),⟨_,ep,⟨rfl,rfl,rfl⟩,rfl,fun e he=>?_,?_,?_⟩,?_⟩
 ·rw [List.mem_toArray] at he
  obtain ⟨r,_,rfl⟩:=List.mem_map.mp he
  exact ⟨Sum.inr r.1,by show Value.isStrOf r.1 (.str r.1 r.2.1)=true; simp [Value.isStrOf],rfl⟩
 ·rw [List.toList_toArray]
  clear nd
  induction rows with
  | nil=>exact .nil
  | cons r rows ih=>exact .cons (by show Value.isStrOf r.1 (.str r.1 r.2.1)=true; simp [Value.isStrOf]) rfl ih
 ·rw [List.map_map]
  rw [List.nodup_iff_pairwise_ne,List.pairwise_map] at nd ⊢
  exact nd.imp fun h e=>h (by injection e)
 ·clear nd
  induction rows with
  | nil=>exact .nil
  | cons r rows ih=>exact .cons ⟨rfl,⟨_,rfl⟩⟩ ih
theorem FnOk.or {CX:CXT} {k:Nat} {f:Addr} {fd:FuncData} {ps:List Str} {sp sp':Sp} (F:FnOk P w K mg base CX k f fd ps sp) (G:FnOk P w K mg base CX k f fd ps sp'):FnOk P w K mg base CX k f fd ps (fun vs H Q E=>sp vs H Q E∨sp' vs H Q E):=
 ⟨fun vs H Q E h=>h.elim (F.len vs H Q E) (G.len vs H Q E),fun A outer s H args us vs Q E hr he hb hv h=>h.elim (F.run A outer s H args us vs Q E hr he hb hv) (G.run A outer s H args us vs Q E hr he hb hv)⟩
def spReadB (cT:Addr):Sp:=fun vs H Q E=>spReadW vs H Q E∨spReadWX cT vs H Q E
theorem jl_len {z:Str}:∀ ys:List Str,z∈ys→z.cps.toList.length≤(jl 32 (ys.map fun y=>y.cps.toList)).length
 | [],h=>by cases h
 | [y],h=>by rw [List.mem_singleton.mp h]; exact Nat.le_refl _
 | y :: x :: r,h=>by
  have e:jl 32 ((y :: x :: r).map fun y=>y.cps.toList)=y.cps.toList ++ 32 :: jl 32 ((x :: r).map fun y=>y.cps.toList):=rfl
  rw [e,List.length_append,List.length_cons]
  rcases List.mem_cons.mp h with e2 | h
  ·rw [e2]; omega
  ·have:=jl_len (x :: r) h
   omega
theorem split_mem_len {t z:Str} (h:z∈Txt.split t ⟨#[32]⟩):z.length≤t.length:=by
 have e:Str.join ⟨#[32]⟩ (Txt.split t ⟨#[32]⟩)=t:=StrLaws.join_split t ⟨#[32]⟩
 have h2:=join_jl 32 (Txt.split t ⟨#[32]⟩)
 rw [e] at h2
 have h3:=jl_len _ h
 rw [← h2,len_list,len_list] at h3
 exact h3
theorem jl_sum (c:Nat):∀ ls:List (List Nat),ls≠[]→(jl c ls).length+1=(ls.map fun x=>x.length+1).sum
 | [],h=>absurd rfl h
 | [x],_=>by simp [jl]
 | x :: y :: r,_=>by
  have ih:=jl_sum c (y :: r) (by simp)
  rw [jl_cons,List.length_append,List.length_cons,List.map_cons,List.sum_cons,← ih]
  omega
theorem dep_signs:∀ W:Wi,3 * W.dep≤((W.tks.map fun z=>z.length+1)).sum
 | .lf _=>by simp [Wi.dep]
 | .has _=>by simp [Wi.dep]
 | .nt x=>by
  have ih:=dep_signs x
  have e:(Wi.nt x).tks=Str.ofString "not" :: x.tks:=by
   rw [Wi.tks_kd,Wi.tk_no rfl]
   show [Str.ofString "not"] ++ [x].flatMap Wi.tks=_
   simp
  have l:(Str.ofString "not").length=3:=by decide +kernel
  rw [e,List.map_cons,List.sum_cons,l]
  simp only [Wi.dep]
  omega
 | .bi b x y=>by
  have ih:=dep_signs x
  have ih2:=dep_signs y
  have e:(Wi.bi b x y).tks=(Wi.bi b x y).nm :: (x.tks ++ y.tks):=by
   rw [Wi.tks_kd,Wi.tk_no rfl]
   show [(Wi.bi b x y).nm] ++ [x,y].flatMap Wi.tks=_
   simp
  have l:2≤(Wi.bi b x y).nm.length:=by
   cases b
   ·show 2≤(Str.ofString "or").length; decide +kernel
   ·show 2≤(Str.ofString "and").length; decide +kernel
  rw [e,List.map_cons,List.sum_cons,List.map_append,List.sum_append]
  simp only [Wi.dep]
  omega
theorem dep_text {t:Str} {W:Wi} (h:Txt.split t ⟨#[32]⟩=W.tks):3 * W.dep≤t.length+1:=by
 have e:Str.join ⟨#[32]⟩ (Txt.split t ⟨#[32]⟩)=t:=StrLaws.join_split t ⟨#[32]⟩
 have h2:=join_jl 32 (Txt.split t ⟨#[32]⟩)
 have h3:=dep_signs W
 have h4:=W.tk_pos
 rw [e,h] at h2
 have h5:=jl_sum 32 (W.tks.map fun y=>y.cps.toList) (fun z=>by
  have h6:0 < W.tks.length:=by rw [W.tks_kd,List.length_append]; omega
  rw [List.map_eq_nil_iff] at z
  rw [z] at h6
  exact absurd h6 (by decide))
 rw [← h2,len_list,List.map_map] at h5
 rw [h5]
 refine Nat.le_trans h3 (Nat.le_of_eq (congrArg List.sum (List.map_congr_left fun z _=>?_)))
 show z.length+1=z.cps.toList.length+1
 rw [len_list]
inductive spLToldI (vs:List V) (H:Hp) (Q:VK):Prop
 | mk (t:Str) (h1:vs=[.str t]) (h2:t.length≤240) (h3:∀ v H',Same H H'→Den H' v (toldD (Txt.split t ⟨#[32]⟩))→Q v H'):spLToldI vs H Q
def spLTold:Sp:=fun vs H Q u3_=>spLToldI vs H Q
theorem ok_law_told {f:Addr} {fd:FuncData} {cSpreadError cNoText cNoMachine cNoFit cNoName cNoRow:Addr} (F:Fun K "_law_told" "_law_told" s_law_told f fd) (Z:Blt mg) (kl:Kls K mg cSpreadError cNoText cNoMachine cNoFit cNoName cNoRow) (na:NoAttr K cNoText "at")
  (C_read_wish:CalR P w K mg base "read_wish" 5 ["text"] (spReadB cNoText)) (C_law_wish_words:Cal P w K mg base "_law_wish_words" 83 ["_law_wish_here"] (spWordsL 82)):FnOk P w K mg base CX0 84 f fd ["_law_text"] spLTold:=by
 refine F.ok sc_law_told (fun vs H Q E h=>?_) (fun cdv A outer s H vs Q E hr h=>?_)
 ·obtain ⟨t,rfl,_⟩:=h
  rfl
 obtain ⟨t,rfl,ht,k⟩:=h
 obtain ⟨⟨K0,_⟩,_,_⟩:=kinds_of kl.kit
 refine ⟨_,(pss_cons (ps_set (i:=1) sc_law_told.nd (by rfl) (Or.inl (by rfl)) pe_non) 
   (pss_cons (ps_set (i:=2) sc_law_told.nd (by rfl) (Or.inl (by rfl)) pe_non) 
   (pss_cons (ps_try (K:=K) (i:=3) (j:=1) sc_law_told.nd (by rfl) (by rfl) (by rfl) (by rfl) kl.mSpreadError (by rfl) (by rfl) (fun pn xe E rx=>
    (pss_one (ps_set (i:=2) sc_law_told.nd (by rfl) (Or.inl (by rfl)) (pe_r C_read_wish (hr.mono (by decide)) rx (pa_cons (pv 0) pa_nil)))))) 
   (pss_cons (ps_if (pt_cmpR op_isN (pv 1) pe_non (nomark _)) 
    (pss_one (ps_ret (pe_tup (pa_cons pe_str (pa_cons (pe_c C_law_wish_words (hr.mono (by decide)) (pa_cons (pv 2) pa_nil)) pa_nil))))) pss_nil) 
   (pss_cons (ps_if (PW.pt (pw_or (pt_not (pt_truthK (K:=K) (pe_callB (call_isR (K:=K)) (by rfl) Z.isinstance bt_isinstance (pa_cons (pv 1) (pa_cons (pe_glob (v:=.ref cNoText) (by rfl) kl.mNoText rfl) pa_nil))) (fun _=>rfl))) (pw_or1 (pt_not (pt_truthK (K:=K) (pe_callB (call_isR (K:=K)) (by rfl) Z.isinstance bt_isinstance (pa_cons (pv 1) (pa_cons (pe_bltn (v:=V.ty "ValueError") (by rfl) Z.ValueError bt_ValueError rfl) pa_nil))) (fun _=>rfl)))))) 
    (pss_one (ps_ret (pe_tup (pa_cons pe_str pa_nil)))) pss_nil) 
   (pss_cons (ps_if (PW.pt (pw_or (pt_truthK (K:=K) (pe_callB (call_isRT (K:=K)) (by rfl) Z.isinstance bt_isinstance (pa_cons (pv 1) (pa_cons (pe_tup (pa_cons (pe_glob (v:=.ref cNoFit) (by rfl) kl.mNoFit rfl) (pa_cons (pe_glob (v:=.ref cNoMachine) (by rfl) kl.mNoMachine rfl) (pa_cons (pe_glob (v:=.ref cNoName) (by rfl) kl.mNoName rfl) (pa_cons (pe_glob (v:=.ref cNoRow) (by rfl) kl.mNoRow rfl) pa_nil))))) pa_nil))) (fun _=>rfl)) (pw_or1 (pt_truthK (K:=K) (pe_callB (call_isK (K:=K)) (by rfl) Z.isinstance bt_isinstance (pa_cons (pe_xfldR (K:=K) (pv 1)) (pa_cons (pe_bltn (v:=V.ty "bool") (by rfl) Z.bool bt_bool rfl) pa_nil))) (fun _=>rfl))))) 
    (pss_one (ps_ret (pe_tup (pa_cons pe_str pa_nil)))) pss_nil) 
   (pss_one (ps_ret (pe_tup (pa_cons pe_str (pa_cons (pe_xfldR (K:=K) (pv 1)) pa_nil))))))))))),?_⟩
 refine (let zz0:TS:=_; let zz1:TS:=tSeq _ zz0; let zz2:TS:=tSeq _ zz1; let zz3:TS:=tSeq _ zz2; let zz4:TS:=tSeq _ zz3; let zz5:TS:=tSeq _ zz4; (?_:tSeq _ zz5 _ _ _))
 have hsl:=split_le t ⟨#[32]⟩
 have hzl:∀ z∈Txt.split t ⟨#[32]⟩,z.length≤300:=fun z hz=>by have:=split_mem_len hz; omega
 unfold toldD at k
 cases hsc:scan (Txt.split t ⟨#[32]⟩) 1 false 0 with
 | none=>
  obtain ⟨W,hW,hok,hsz,hdp⟩:=scan_wish hzl hsc
  have hd3:=dep_text hW
  rw [hsc] at k
  refine ⟨_,rfl,.inl ⟨W,t,rfl,hW,by omega,by omega,hok,fun v H1 e1 hv=>?_⟩⟩
  refine ⟨_,rfl,rfl,_,rfl,ifY rfl ?_⟩
  refine ⟨_,rfl,v,W,rfl,hv,by omega,by omega,fun q H2 hq e2 h2=>⟨(by show 2≤sizeLine; decide),fun g hg=>?_⟩⟩
  refine k _ _ ((e1.trans e2).trans (same_new hg _)) ?_
  rw [← hW] at h2
  exact den_two upd_same (.str _) (den_strs (same_new hg _ _ _ h2) (by omega))
 | some m=>
  rw [hsc] at k
  refine ⟨_,rfl,.inr ⟨t,m,rfl,by omega,hzl,hsc,fun a H1 e1 ex=>?_⟩⟩
  obtain ⟨dx,h1,h2⟩:∃ dx,H1 a=some (exR a cNoText (some dx))∧H1 dx=some (xdH dx (oneF (m:Nat))):=by
   rcases ex with ⟨_,z⟩ | z
   ·cases z
   ·exact z
  refine ⟨a,cNoText,some dx,rfl,h1,exm_of kl.exm (by simp),?_⟩
  refine ⟨_,rfl,rfl,_,rfl,ifN (decide_eq_false nofun) ?_⟩
  refine ⟨_,rfl,a,cNoText,_,_,_,_,rfl,ex,kl.fNoText,rfl,.inr ⟨_,rfl⟩,K0.k0,_,rfl,iteF ?_⟩
  refine ⟨_,rfl,a,cNoText,_,_,_,_,rfl,ex,kl.fNoText,rfl,.inl ⟨_,rfl⟩,K0.ve,_,rfl,iteF ?_⟩
  refine ⟨_,rfl,(by show 4≤sizeLine; decide),fun tp htp=>?_⟩
  have s2:=same_new htp (.tup [V.ref cNoFit,V.ref cNoMachine,V.ref cNoName,V.ref cNoRow])
  have ex2:=ex.same s2
  have ka:PySem.W.kitAny K (.ref cNoText) ([cNoFit,cNoMachine,cNoName,cNoRow].map Value.ref)=some false:=by
   simp only [List.map_cons,List.map_nil,PySem.W.kitAny,K0.k1,K0.k2,K0.k3,K0.k4]
   rfl
  refine ⟨a,cNoText,_,tp,[cNoFit,cNoMachine,cNoName,cNoRow],false,rfl,ex2,kl.fNoText,upd_same,ka,_,rfl,iteF ?_⟩
  refine ⟨_,rfl,a,cNoText,_,_,rfl,ex2,kl.fNoText,na,rfl,_,_,_,_,rfl,.int _,kit_i_b K,_,rfl,iteF ?_⟩
  refine ⟨_,rfl,a,cNoText,_,_,rfl,ex2,kl.fNoText,na,rfl,(by show 2≤sizeLine; decide),fun g hg=>?_⟩
  exact k _ _ ((e1.trans s2).trans (same_new hg _)) (den_two upd_same (.str _) (.int _))
inductive spLRightI (vs:List V) (H:Hp) (Q:VK):Prop
 | mk (t:Str) (h1:vs=[.str t]) (h2:t.length≤240) (h3:∀ H',Same H H'→Q (.bl true) H'):spLRightI vs H Q
def spLRight:Sp:=fun vs H Q u3_=>spLRightI vs H Q
theorem ok_law_right {f:Addr} {fd:FuncData} (F:Fun K "_law_right" "_law_right" s_law_right f fd) (Z:Blt mg) (C_law_told:Cal P w K mg base "_law_told" 84 ["_law_text"] spLTold) (C_law_read:Cal P w K mg base "_law_read" 2 ["_law_words"] spLRead):FnOk P w K mg base CX0 85 f fd ["_law_text"] spLRight:=by
 refine F.ok sc_law_right (fun vs H Q E h=>?_) (fun cdv A outer s H vs Q E hr h=>?_)
 ·obtain ⟨t,rfl,_⟩:=h
  rfl
 obtain ⟨t,rfl,ht,k⟩:=h
 refine ⟨_,(pss_one (ps_ret (pe_cmpR (op_eqD (hd_of hr)) (pe_c C_law_told (hr.mono (by decide)) (pa_cons (pv 0) pa_nil)) (pe_c C_law_read (hr.mono (by decide)) (pa_cons (pe_bmK (K:=K) PySem.F.plainAttrs_str PySem.F.slot_str_split PySem.F.type_str_split mt_split (pv 0) (pa_cons pe_str pa_nil)) pa_nil)) (nomark _)))),?_⟩
 have hsl:=split_le t ⟨#[32]⟩
 have hzl:∀ z∈Txt.split t ⟨#[32]⟩,z.length≤300:=fun z hz=>by have:=split_mem_len hz; omega
 obtain ⟨ds,e,hd⟩:=told_tup (Txt.split t ⟨#[32]⟩)
 refine ⟨_,rfl,t,rfl,ht,fun v H1 e1 d1=>?_⟩
 refine ⟨_,rfl,rfl,t,⟨#[32]⟩,rfl,rfl,rfl,by omega,fun q hq=>?_⟩
 have s2:=same_new hq (.lst ((Txt.split t ⟨#[32]⟩).map V.str))
 refine ⟨q,_,rfl,upd_same,by omega,hzl,fun u H3 e3 d2=>?_⟩
 rw [e] at d1 d2
 exact ⟨ds,hd,d1.same (s2.trans e3),d2,k _ ((e1.trans s2).trans e3)⟩
theorem Wi.ok_imp {p q:Str→Prop} (h:∀ z,p z→q z):∀ {W:Wi},W.ok p→W.ok q
 | .lf _,_=>trivial
 | .has z,hz=>h z hz
 | .nt x,hx=>Wi.ok_imp (W:=x) h hx
 | .bi _ x y,hxy=>⟨Wi.ok_imp (W:=x) h hxy.1,Wi.ok_imp (W:=y) h hxy.2⟩
def GoodT (x:V):Prop:=∃ t:Str,x=.str t∧t.length≤240
theorem join_bound {ws:List Str} {n L:Nat} (hn:ws.length≤n) (hL:∀ z∈ws,z.length≤L):(ws.map (·.length)).sum+ws.length * (⟨#[32]⟩:Str).length≤n * (L+1):=by
 have o1:(⟨#[32]⟩:Str).length=1:=rfl
 have h2:∀ ys:List Str,(∀ z∈ys,z.length≤L)→(ys.map (·.length)).sum≤ys.length * L:=by
  intro ys
  induction ys with
  | nil=>intro _; exact Nat.zero_le _
  | cons y ys ih=>
   intro h
   have a:=ih fun z hz=>h z (List.mem_cons_of_mem _ hz)
   have b:=h y List.mem_cons_self
   rw [List.map_cons,List.sum_cons,List.length_cons,Nat.add_mul,Nat.one_mul]
   omega
 have h3:=h2 ws hL
 rw [o1,Nat.mul_one]
 have h4:ws.length * (L+1)≤n * (L+1):=Nat.mul_le_mul_right _ hn
 rw [Nat.mul_add,Nat.mul_one] at h4
 omega
theorem Wi.tks_pos (W:Wi):0 < W.tks.length:=by
 rw [W.tks_kd,List.length_append]
 have:=W.tk_pos
 omega
theorem tks_six {W:Wi} (h:W.ok fun z=>z.length≤6):∀ z∈W.tks,z.length≤6:=fun z hz=>by
 obtain ⟨r,hr,hz⟩:=List.mem_flatMap.mp hz
 have hok:=Wi.ok_pre h hr
 have hnm:∀ s∈names,s.length≤6:=by decide +kernel
 cases hw:r.wd with
 | none=>
  rw [Wi.tk_no hw,List.mem_singleton] at hz
  rw [hz]
  exact hnm _ (nm_mem r)
 | some y=>
  obtain rfl:r=.has y:=by
   cases r with
   | has x=>exact congrArg Wi.has (Option.some.inj hw)
   | lf b=>cases hw
   | nt x=>cases hw
   | bi b x z=>cases hw
  rw [Wi.tk_has] at hz
  rcases List.mem_cons.mp hz with e | e
  ·rw [e]; decide +kernel
  ·rw [List.mem_singleton.mp e]
   unfold dotS
   by_cases c:y.length=0
   ·rw [if_pos c]; decide +kernel
   ·rw [if_neg c]; exact hok
theorem ok_law {f:Addr} {fd:FuncData} (F:Fun K "law" "law" s_law f fd) (Z:Blt mg) (C_law_flow:Cal P w K mg base "_law_flow" 1 ["_law_script"] (spFlow K)) (C_law_pick:Cal P w K mg base "_law_pick" 1 ["_law_flow_here","_law_many"] spPick) (C_law_some_letters:Cal P w K mg base "_law_some_letters" 3 ["_law_flow_here"] spSomeL)
  (C_law_any_wish:Cal P w K mg base "_law_any_wish" 8 ["_law_flow_here","_law_letters_here"] spAnyW) (C_law_wish_words:Cal P w K mg base "_law_wish_words" 83 ["_law_wish_here"] (spWordsL 82)) (C_law_spoilt:Cal P w K mg base "_law_spoilt" 3 ["_law_flow_here","_law_words"] spSpoiltW) (C_law_right:Cal P w K mg base "_law_right" 85 ["_law_text"] spLRight):FnOk P w K mg base CX0 86 f fd ["_law_script"] (spLaw K):=by
 refine F.ok sc_law (fun vs H Q E h=>?_) (fun cdv A outer s H vs Q E hr h=>?_)
 ·obtain ⟨a,ns,rfl,_⟩:=h
  rfl
 obtain ⟨a,ns,rfl,hS,h63,k⟩:=h
 refine ⟨_,(pss_cons (ps_set (i:=1) sc_law.nd (by rfl) (Or.inl (by rfl)) (pe_c C_law_flow (hr.mono (by decide)) (pa_cons (pv 0) pa_nil))) 
   (pss_cons (ps_set (i:=2) sc_law.nd (by rfl) (Or.inl (by rfl)) (pe_op op_add pe_int (pe_c C_law_pick (hr.mono (by decide)) (pa_cons (pv 1) (pa_cons pe_int pa_nil))))) 
   (pss_cons (ps_set (i:=3) sc_law.nd (by rfl) (Or.inl (by rfl)) (pe_c C_law_wish_words (hr.mono (by decide)) (pa_cons (pe_c C_law_any_wish (hr.mono (by decide)) (pa_cons (pv 1) (pa_cons (pe_c C_law_some_letters (hr.mono (by decide)) (pa_cons (pv 1) pa_nil)) pa_nil))) pa_nil))) 
   (pss_cons (ps_set (i:=4) sc_law.nd (by rfl) (Or.inl (by rfl)) (pe_bmK (K:=K) PySem.F.plainAttrs_str PySem.F.slot_str_join PySem.F.type_str_join (mt_joinK (K:=K)) pe_str (pa_cons (pv 3) pa_nil))) 
   (pss_cons (ps_for PassesOwn.never (by rfl) (pi_range1 (by rfl) Z.range (pa_cons pe_int pa_nil)) (pg_name (i:=5) sc_law.nd (by rfl) (Or.inl (by rfl))) 
    (pss_cons (ps_set (i:=6) sc_law.nd (by rfl) (Or.inl (by rfl)) (pv 3)) 
    (pss_cons (ps_for PassesOwn.never (by rfl) (pi_range1 (by rfl) Z.range (pa_cons (pv 2) pa_nil)) (pg_name (i:=7) sc_law.nd (by rfl) (Or.inl (by rfl))) 
     (pss_one (ps_set (i:=6) sc_law.nd (by rfl) (Or.inl (by rfl)) (pe_c C_law_spoilt (hr.mono (by decide)) (pa_cons (pv 1) (pa_cons (pv 6) pa_nil)))))) 
    (pss_one (ps_if (PW.pt (pw_or (pt_not (pt_truthK (K:=K) (pe_c C_law_right (hr.mono (by decide)) (pa_cons (pe_bmK (K:=K) PySem.F.plainAttrs_str PySem.F.slot_str_join PySem.F.type_str_join (mt_joinK (K:=K)) pe_str (pa_cons (pv 6) pa_nil)) pa_nil)) (fun _=>rfl))) (pw_or1 (pt_not (pt_truthK (K:=K) (pe_c C_law_right (hr.mono (by decide)) (pa_cons (pv 4) pa_nil)) (fun _=>rfl)))))) 
     (pss_one (ps_ret pe_bl)) pss_nil))))) 
   (pss_one (ps_ret (pe_callB (call_allK (K:=K)) (by rfl) Z.all bt_all (pa_cons (pe_comp (sc:=defScope s_law) (Nm:=["_law_script","_law_flow_here","_law_times","_law_words","_law_good","_law_k","_law_spoilt_here","_law_turn"]) (own:=["_law_text"]) (fr:=[]) ⟨rfl,by decide +kernel,by decide +kernel,by decide +kernel,by decide +kernel⟩ (by rfl) (gfr_name (by decide)) (pi_tupK (K:=K) (pe_tup (pa_cons pe_str (pa_cons pe_str (pa_cons pe_str (pa_cons pe_str (pa_cons (pe_op op_add_str (pv 4) pe_str) (pa_cons (pe_op op_add_str pe_str (pv 4)) (pa_cons (pe_op op_add_str (pv 4) pe_str) (pa_cons (pv 4) pa_nil)))))))))) (fun d=>(pg_name (i:=0) nd_law_0 (by rfl) (Or.inl (by rfl)))) (fun d=>pts_nil) (fun d=>(pe_c C_law_right (hr.mono (by decide)) (pa_cons (pv 0) pa_nil)))) pa_nil))))))))),?_⟩
 refine (let zz0:TS:=_; let zz1:TS:=_; let zz2:TS:=tSeq _ zz1; let zz3:TS:=tSeq _ zz2; let zz4:TS:=tSeq (tFor _ _ zz3) zz0; let zz5:TS:=tSeq _ zz4; let zz6:TS:=tSeq _ zz5; let zz7:TS:=tSeq _ zz6; (?_:tSeq _ zz7 _ _ _))
 refine ⟨_,rfl,a,ns,rfl,hS,fun p sc H1 hp e1 FA=>?_⟩
 refine ⟨_,rfl,p,sc,3,rfl,by decide,by decide,FA,fun r xs hr0 hr1 hx=>⟨_,_,rfl,rfl,?_⟩⟩
 have FA1:=FA.go hx
 generalize upd H1 p (.lst xs)=H2 at FA1
 refine ⟨_,rfl,_,rfl,p,sc,rfl,FA1,fun l H3 hl0 hl1 hlc d3 FA3=>?_⟩
 have hll:=len_list l
 refine ⟨p,sc,l,rfl,by omega,by omega,FA3,fun v W H4 hW hs hd hok d4 FA4=>?_⟩
 have hok':W.ok Lw:=Wi.ok_imp (fun z hz=>⟨by have:=len_list z; omega,fun c hc=>hlc c (hz.2 c hc)⟩) hok
 have hok6:∀ z∈W.tks,z.length≤6:=tks_six (Wi.ok_imp (fun z hz=>by have:=len_list z; omega) hok)
 refine ⟨v,W,rfl,hW,by omega,by omega,fun q H5 hq e5 h5=>?_⟩
 have FA5:=FA4.same e5
 have nqp:q≠p:=lst_p FA4 hq
 have tl:=W.tks_len
 have tp:=W.tks_pos
 have jb:=join_bound (n:=20) (L:=6) (show W.tks.length≤20 by omega) hok6
 refine ⟨rfl,_,rfl,_,q,W.tks,rfl,rfl,SqL.of h5,line_le (Nat.le_trans jb (by decide)),?_⟩
 have jb':(Txt.join (Str.ofString " ") W.tks).length≤140:=by
  have e:Txt.join (Str.ofString " ") W.tks=Str.join ⟨#[32]⟩ W.tks:=StrLaws.glued_eq_join _ _
  rw [e]
  exact Nat.le_trans (StrLaws.join_length_le (⟨#[32]⟩:Str) W.tks) jb
 generalize Txt.join (Str.ofString " ") W.tks=good at jb'
 generalize W.tks=ws at h5 tl tp hok6
 clear jb
 refine ⟨5,rfl,by decide,by decide,?_⟩
 refine for_range (lo:=0) (n:=5) (fun i σ H7=>∃ (v5 v6 v7:Option V),σ=[some (.ref a),some (.ref p),some (.int (1+r)),some (.ref q),some (.str good),v5,v6,v7]∧FlowAt H7 p sc∧H7 q=some (.lst (ws.map V.str))) ⟨none,none,none,rfl,FA5,h5⟩ ?_ ?_
 ·rintro i σ H7 hi ⟨v5,v6,v7,rfl,FA7,h7⟩
  refine ⟨_,rfl,?_⟩
  refine ⟨_,rfl,_,rfl,by omega,by omega,?_⟩
  refine for_range (lo:=0) (n:=(1+r).toNat) (fun j σ H9=>∃ (q':Addr) (us:List Str) (v7:Option V),σ=[some (.ref a),some (.ref p),some (.int (1+r)),some (.ref q),some (.str good),some (.int (0+(i:Int))),some (.ref q'),v7]∧FlowAt H9 p sc∧H9 q=some (.lst (ws.map V.str))∧H9 q'=some (.lst (us.map V.str))∧q'≠p∧0 < us.length∧us.length≤20+j∧∀ z∈us,z.length≤6+j) ⟨q,ws,v7,rfl,FA7,h7,h7,nqp,tp,by omega,fun z hz=>by have:=hok6 z hz; omega⟩ ?_ ?_
  ·rintro j σ H9 hj ⟨q',us,v7,rfl,FA9,h9,h9',nq',hu0,hu1,hu2⟩
   have hj3:j < 3:=by omega
   refine ⟨_,rfl,_,rfl,p,sc,q',us,6+j,rfl,h9',nq',hu0,by omega,by omega,by omega,hu2,FA9,fun q2 us2 H10 h10 nq2 g0 g1 g2 d10 FA10=>?_⟩
   exact ⟨q2,us2,_,rfl,FA10,d10 _ _ h9 nqp,h10,nq2,g0,by omega,fun z hz=>by have:=g2 z hz; omega⟩
  ·rintro σ H9 ⟨q',us,v7,rfl,FA9,h9,h9',nq',hu0,hu1,hu2⟩
   have hr3:(1+r).toNat≤3:=by omega
   have jb:=join_bound (n:=23) (L:=9) (show us.length≤23 by omega) (fun z hz=>by have:=hu2 z hz; omega)
   refine ⟨rfl,_,rfl,_,q',us,rfl,rfl,SqL.of h9',line_le (Nat.le_trans jb (by decide)),?_⟩
   have jb':(Txt.join (Str.ofString " ") us).length≤230:=by
    have e:Txt.join (Str.ofString " ") us=Str.join ⟨#[32]⟩ us:=StrLaws.glued_eq_join _ _
    rw [e]
    exact Nat.le_trans (StrLaws.join_length_le (⟨#[32]⟩:Str) us) jb
   generalize Txt.join (Str.ofString " ") us=bent at jb'
   refine ⟨bent,rfl,by omega,fun H10 e10=>⟨_,rfl,iteF ?_⟩⟩
   refine ⟨_,rfl,good,rfl,by omega,fun H11 e11=>⟨_,rfl,iteF ?_⟩⟩
   exact ⟨_,_,_,rfl,FA9.same (e10.trans e11),(e10.trans e11) _ _ h9⟩
 ·rintro σ H7 ⟨v5,v6,v7,rfl,FA7,h7⟩
  have o1:(Str.ofString " ").length=1:=by decide +kernel
  have o2:(Str.ofString "\n").length=1:=by decide +kernel
  have a1:=add_len good (Str.ofString " ")
  have a2:=add_len (Str.ofString " ") good
  have a3:=add_len good (Str.ofString "\n")
  refine ⟨_,rfl,_,_,rfl,rfl,line_le (by omega),_,rfl,_,_,rfl,rfl,line_le (by omega),_,rfl,_,_,rfl,rfl,line_le (by omega),_,rfl,(by show 8≤sizeLine; decide),fun tp htp=>?_⟩
  have g8:∀ x∈[V.str "",V.str " ",V.str "has",V.str "has ",V.str (good ++ Str.ofString " "),V.str (Str.ofString " " ++ good),V.str (good ++ Str.ofString "\n"),V.str good],GoodT x:=by
   intro x hx
   simp only [List.mem_cons,List.not_mem_nil,or_false] at hx
   rcases hx with rfl | rfl | rfl | rfl | rfl | rfl | rfl | rfl
   ·exact ⟨_,rfl,by decide +kernel⟩
   ·exact ⟨_,rfl,by decide +kernel⟩
   ·exact ⟨_,rfl,by decide +kernel⟩
   ·exact ⟨_,rfl,by decide +kernel⟩
   ·exact ⟨_,rfl,by omega⟩
   ·exact ⟨_,rfl,by omega⟩
   ·exact ⟨_,rfl,by omega⟩
   ·exact ⟨_,rfl,by omega⟩
  have h8:upd H7 tp (.tup [V.str "",V.str " ",V.str "has",V.str "has ",V.str (good ++ Str.ofString " "),V.str (Str.ofString " " ++ good),V.str (good ++ Str.ofString "\n"),V.str good]) tp=some (.tup [V.str "",V.str " ",V.str "has",V.str "has ",V.str (good ++ Str.ofString " "),V.str (Str.ofString " " ++ good),V.str (good ++ Str.ofString "\n"),V.str good]):=upd_same
  generalize hys:[V.str "",V.str " ",V.str "has",V.str "has ",V.str (good ++ Str.ofString " "),V.str (Str.ofString " " ++ good),V.str (good ++ Str.ofString "\n"),V.str good]=ys at h8 g8
  have hyl:ys.length≤10:=by rw [← hys]; show 8≤10; decide
  generalize upd H7 tp (.tup ys)=H8 at h8
  refine ⟨tp,rfl,⟨_,SqT.of h8⟩,?_⟩
  refine comp_tup (K:=K) (a:=tp) (xs:=ys) (fun j acc H9=>acc=(List.replicate j true).map V.bl∧Same H8 H9) (small1000 (by omega)) ⟨rfl,Same.refl _⟩ (fun j acc H9 p=>by rw [p.1,List.length_map,List.length_replicate]; exact Nat.le_refl _) (fun j acc H9 p=>SqT.of (p.2 _ _ h8)) (fun j acc H9 x hx p=>?_) (fun acc H9 p y hy=>?_)
  ·obtain ⟨rfl,e9⟩:=p
   obtain ⟨t,rfl,ht⟩:=g8 x (List.mem_of_getElem? hx)
   refine cyes ⟨_,rfl,t,rfl,ht,fun H10 e10=>⟨?_,e9.trans e10⟩⟩
   rw [List.replicate_succ',List.map_append]
   rfl
  ·obtain ⟨rfl,e9⟩:=p
   refine ⟨y,List.replicate ys.length true,rfl,SqL.of upd_same,?_⟩
   have:(List.replicate ys.length true).all id=true:=by
    rw [List.all_eq_true]
    intro b hb
    exact (List.mem_replicate.mp hb).2
   rw [this]
   exact k _
end
theorem all_mk {l:PySem.W.OpenLaw} {w:World} {K:PySem.W.Frag} {h:Heap} {mg:Str→Option Value} {fa:Addr} (X:K.In h) (G:h.Ns mainGlobals mg) (hfa:mg "law" = some (.ref fa))
  {f1:Addr} {od1 an1:Option Addr} {sl1:Array (Option Value)} {oc1 kV1 dc1 pm1 cd1 ct1:Value}
  (a1:PySem.W.nsIn K mainGlobals "is_word" = some (some (.ref f1))) (l1:K.lookup f1=some ⟨oc1,od1,.func (PySem.W.fnOf "is_word" "is_word" (defArgs s_is_word) (defBody s_is_word) (defScope s_is_word) .none kV1 dc1 pm1 an1 cd1 ct1),sl1⟩) (c1:PySem.W.codeIn K cd1 "is_word" = true) (k1:PySem.W.keepIn K (.ref f1)=true)
  {f2:Addr} {od2 an2:Option Addr} {sl2:Array (Option Value)} {oc2 kV2 dc2 pm2 cd2 ct2:Value}
  (a2:PySem.W.nsIn K mainGlobals "inner_count" = some (some (.ref f2))) (l2:K.lookup f2=some ⟨oc2,od2,.func (PySem.W.fnOf "inner_count" "inner_count" (defArgs s_inner_count) (defBody s_inner_count) (defScope s_inner_count) .none kV2 dc2 pm2 an2 cd2 ct2),sl2⟩) (c2:PySem.W.codeIn K cd2 "inner_count" = true) (k2:PySem.W.keepIn K (.ref f2)=true)
  {f3:Addr} {od3 an3:Option Addr} {sl3:Array (Option Value)} {oc3 kV3 dc3 pm3 cd3 ct3:Value}
  (a3:PySem.W.nsIn K mainGlobals "wish_from" = some (some (.ref f3))) (l3:K.lookup f3=some ⟨oc3,od3,.func (PySem.W.fnOf "wish_from" "wish_from" (defArgs s_wish_from) (defBody s_wish_from) (defScope s_wish_from) .none kV3 dc3 pm3 an3 cd3 ct3),sl3⟩) (c3:PySem.W.codeIn K cd3 "wish_from" = true) (k3:PySem.W.keepIn K (.ref f3)=true)
  {f4:Addr} {od4 an4:Option Addr} {sl4:Array (Option Value)} {oc4 kV4 dc4 pm4 cd4 ct4:Value}
  (a4:PySem.W.nsIn K mainGlobals "read_word" = some (some (.ref f4))) (l4:K.lookup f4=some ⟨oc4,od4,.func (PySem.W.fnOf "read_word" "read_word" (defArgs s_read_word) (defBody s_read_word) (defScope s_read_word) .none kV4 dc4 pm4 an4 cd4 ct4),sl4⟩) (c4:PySem.W.codeIn K cd4 "read_word" = true) (k4:PySem.W.keepIn K (.ref f4)=true)
  {f5:Addr} {od5 an5:Option Addr} {sl5:Array (Option Value)} {oc5 kV5 dc5 pm5 cd5 ct5:Value}
  (a5:PySem.W.nsIn K mainGlobals "read_head" = some (some (.ref f5))) (l5:K.lookup f5=some ⟨oc5,od5,.func (PySem.W.fnOf "read_head" "read_head" (defArgs s_read_head) (defBody s_read_head) (defScope s_read_head) .none kV5 dc5 pm5 an5 cd5 ct5),sl5⟩) (c5:PySem.W.codeIn K cd5 "read_head" = true) (k5:PySem.W.keepIn K (.ref f5)=true)
  {f6:Addr} {od6 an6:Option Addr} {sl6:Array (Option Value)} {oc6 kV6 dc6 pm6 cd6 ct6:Value}
  (a6:PySem.W.nsIn K mainGlobals "read_wish" = some (some (.ref f6))) (l6:K.lookup f6=some ⟨oc6,od6,.func (PySem.W.fnOf "read_wish" "read_wish" (defArgs s_read_wish) (defBody s_read_wish) (defScope s_read_wish) .none kV6 dc6 pm6 an6 cd6 ct6),sl6⟩) (c6:PySem.W.codeIn K cd6 "read_wish" = true) (k6:PySem.W.keepIn K (.ref f6)=true)
  {f7:Addr} {od7 an7:Option Addr} {sl7:Array (Option Value)} {oc7 kV7 dc7 pm7 cd7 ct7:Value}
  (a7:PySem.W.nsIn K mainGlobals "_law_flow" = some (some (.ref f7))) (l7:K.lookup f7=some ⟨oc7,od7,.func (PySem.W.fnOf "_law_flow" "_law_flow" (defArgs s_law_flow) (defBody s_law_flow) (defScope s_law_flow) .none kV7 dc7 pm7 an7 cd7 ct7),sl7⟩) (c7:PySem.W.codeIn K cd7 "_law_flow" = true) (k7:PySem.W.keepIn K (.ref f7)=true)
  {f8:Addr} {od8 an8:Option Addr} {sl8:Array (Option Value)} {oc8 kV8 dc8 pm8 cd8 ct8:Value}
  (a8:PySem.W.nsIn K mainGlobals "_law_pick" = some (some (.ref f8))) (l8:K.lookup f8=some ⟨oc8,od8,.func (PySem.W.fnOf "_law_pick" "_law_pick" (defArgs s_law_pick) (defBody s_law_pick) (defScope s_law_pick) .none kV8 dc8 pm8 an8 cd8 ct8),sl8⟩) (c8:PySem.W.codeIn K cd8 "_law_pick" = true) (k8:PySem.W.keepIn K (.ref f8)=true)
  {f9:Addr} {od9 an9:Option Addr} {sl9:Array (Option Value)} {oc9 kV9 dc9 pm9 cd9 ct9:Value}
  (a9:PySem.W.nsIn K mainGlobals "_law_letters" = some (some (.ref f9))) (l9:K.lookup f9=some ⟨oc9,od9,.func (PySem.W.fnOf "_law_letters" "_law_letters" (defArgs s_law_letters) (defBody s_law_letters) (defScope s_law_letters) .none kV9 dc9 pm9 an9 cd9 ct9),sl9⟩) (c9:PySem.W.codeIn K cd9 "_law_letters" = true) (k9:PySem.W.keepIn K (.ref f9)=true)
  {f10:Addr} {od10 an10:Option Addr} {sl10:Array (Option Value)} {oc10 kV10 dc10 pm10 cd10 ct10:Value}
  (a10:PySem.W.nsIn K mainGlobals "_law_wish" = some (some (.ref f10))) (l10:K.lookup f10=some ⟨oc10,od10,.func (PySem.W.fnOf "_law_wish" "_law_wish" (defArgs s_law_wish) (defBody s_law_wish) (defScope s_law_wish) .none kV10 dc10 pm10 an10 cd10 ct10),sl10⟩) (c10:PySem.W.codeIn K cd10 "_law_wish" = true) (k10:PySem.W.keepIn K (.ref f10)=true)
  {f11:Addr} {od11 an11:Option Addr} {sl11:Array (Option Value)} {oc11 kV11 dc11 pm11 cd11 ct11:Value}
  (a11:PySem.W.nsIn K mainGlobals "_law_any_wish" = some (some (.ref f11))) (l11:K.lookup f11=some ⟨oc11,od11,.func (PySem.W.fnOf "_law_any_wish" "_law_any_wish" (defArgs s_law_any_wish) (defBody s_law_any_wish) (defScope s_law_any_wish) .none kV11 dc11 pm11 an11 cd11 ct11),sl11⟩) (c11:PySem.W.codeIn K cd11 "_law_any_wish" = true) (k11:PySem.W.keepIn K (.ref f11)=true)
  {f12:Addr} {od12 an12:Option Addr} {sl12:Array (Option Value)} {oc12 kV12 dc12 pm12 cd12 ct12:Value}
  (a12:PySem.W.nsIn K mainGlobals "_law_some_letters" = some (some (.ref f12))) (l12:K.lookup f12=some ⟨oc12,od12,.func (PySem.W.fnOf "_law_some_letters" "_law_some_letters" (defArgs s_law_some_letters) (defBody s_law_some_letters) (defScope s_law_some_letters) .none kV12 dc12 pm12 an12 cd12 ct12),sl12⟩) (c12:PySem.W.codeIn K cd12 "_law_some_letters" = true) (k12:PySem.W.keepIn K (.ref f12)=true)
  {f13:Addr} {od13 an13:Option Addr} {sl13:Array (Option Value)} {oc13 kV13 dc13 pm13 cd13 ct13:Value}
  (a13:PySem.W.nsIn K mainGlobals "_law_word_text" = some (some (.ref f13))) (l13:K.lookup f13=some ⟨oc13,od13,.func (PySem.W.fnOf "_law_word_text" "_law_word_text" (defArgs s_law_word_text) (defBody s_law_word_text) (defScope s_law_word_text) .none kV13 dc13 pm13 an13 cd13 ct13),sl13⟩) (c13:PySem.W.codeIn K cd13 "_law_word_text" = true) (k13:PySem.W.keepIn K (.ref f13)=true)
  {f14:Addr} {od14 an14:Option Addr} {sl14:Array (Option Value)} {oc14 kV14 dc14 pm14 cd14 ct14:Value}
  (a14:PySem.W.nsIn K mainGlobals "_law_wish_words" = some (some (.ref f14))) (l14:K.lookup f14=some ⟨oc14,od14,.func (PySem.W.fnOf "_law_wish_words" "_law_wish_words" (defArgs s_law_wish_words) (defBody s_law_wish_words) (defScope s_law_wish_words) .none kV14 dc14 pm14 an14 cd14 ct14),sl14⟩) (c14:PySem.W.codeIn K cd14 "_law_wish_words" = true) (k14:PySem.W.keepIn K (.ref f14)=true)
  {f15:Addr} {od15 an15:Option Addr} {sl15:Array (Option Value)} {oc15 kV15 dc15 pm15 cd15 ct15:Value}
  (a15:PySem.W.nsIn K mainGlobals "_law_signs" = some (some (.ref f15))) (l15:K.lookup f15=some ⟨oc15,od15,.func (PySem.W.fnOf "_law_signs" "_law_signs" (defArgs s_law_signs) (defBody s_law_signs) (defScope s_law_signs) .none kV15 dc15 pm15 an15 cd15 ct15),sl15⟩) (c15:PySem.W.codeIn K cd15 "_law_signs" = true) (k15:PySem.W.keepIn K (.ref f15)=true)
  {f16:Addr} {od16 an16:Option Addr} {sl16:Array (Option Value)} {oc16 kV16 dc16 pm16 cd16 ct16:Value}
  (a16:PySem.W.nsIn K mainGlobals "_law_other_word" = some (some (.ref f16))) (l16:K.lookup f16=some ⟨oc16,od16,.func (PySem.W.fnOf "_law_other_word" "_law_other_word" (defArgs s_law_other_word) (defBody s_law_other_word) (defScope s_law_other_word) .none kV16 dc16 pm16 an16 cd16 ct16),sl16⟩) (c16:PySem.W.codeIn K cd16 "_law_other_word" = true) (k16:PySem.W.keepIn K (.ref f16)=true)
  {f17:Addr} {od17 an17:Option Addr} {sl17:Array (Option Value)} {oc17 kV17 dc17 pm17 cd17 ct17:Value}
  (a17:PySem.W.nsIn K mainGlobals "_law_spoilt" = some (some (.ref f17))) (l17:K.lookup f17=some ⟨oc17,od17,.func (PySem.W.fnOf "_law_spoilt" "_law_spoilt" (defArgs s_law_spoilt) (defBody s_law_spoilt) (defScope s_law_spoilt) .none kV17 dc17 pm17 an17 cd17 ct17),sl17⟩) (c17:PySem.W.codeIn K cd17 "_law_spoilt" = true) (k17:PySem.W.keepIn K (.ref f17)=true)
  {f18:Addr} {od18 an18:Option Addr} {sl18:Array (Option Value)} {oc18 kV18 dc18 pm18 cd18 ct18:Value}
  (a18:PySem.W.nsIn K mainGlobals "_law_is_word" = some (some (.ref f18))) (l18:K.lookup f18=some ⟨oc18,od18,.func (PySem.W.fnOf "_law_is_word" "_law_is_word" (defArgs s_law_is_word) (defBody s_law_is_word) (defScope s_law_is_word) .none kV18 dc18 pm18 an18 cd18 ct18),sl18⟩) (c18:PySem.W.codeIn K cd18 "_law_is_word" = true) (k18:PySem.W.keepIn K (.ref f18)=true)
  {f19:Addr} {od19 an19:Option Addr} {sl19:Array (Option Value)} {oc19 kV19 dc19 pm19 cd19 ct19:Value}
  (a19:PySem.W.nsIn K mainGlobals "_law_read" = some (some (.ref f19))) (l19:K.lookup f19=some ⟨oc19,od19,.func (PySem.W.fnOf "_law_read" "_law_read" (defArgs s_law_read) (defBody s_law_read) (defScope s_law_read) .none kV19 dc19 pm19 an19 cd19 ct19),sl19⟩) (c19:PySem.W.codeIn K cd19 "_law_read" = true) (k19:PySem.W.keepIn K (.ref f19)=true)
  {f20:Addr} {od20 an20:Option Addr} {sl20:Array (Option Value)} {oc20 kV20 dc20 pm20 cd20 ct20:Value}
  (a20:PySem.W.nsIn K mainGlobals "_law_told" = some (some (.ref f20))) (l20:K.lookup f20=some ⟨oc20,od20,.func (PySem.W.fnOf "_law_told" "_law_told" (defArgs s_law_told) (defBody s_law_told) (defScope s_law_told) .none kV20 dc20 pm20 an20 cd20 ct20),sl20⟩) (c20:PySem.W.codeIn K cd20 "_law_told" = true) (k20:PySem.W.keepIn K (.ref f20)=true)
  {f21:Addr} {od21 an21:Option Addr} {sl21:Array (Option Value)} {oc21 kV21 dc21 pm21 cd21 ct21:Value}
  (a21:PySem.W.nsIn K mainGlobals "_law_right" = some (some (.ref f21))) (l21:K.lookup f21=some ⟨oc21,od21,.func (PySem.W.fnOf "_law_right" "_law_right" (defArgs s_law_right) (defBody s_law_right) (defScope s_law_right) .none kV21 dc21 pm21 an21 cd21 ct21),sl21⟩) (c21:PySem.W.codeIn K cd21 "_law_right" = true) (k21:PySem.W.keepIn K (.ref f21)=true)
  {f22:Addr} {od22 an22:Option Addr} {sl22:Array (Option Value)} {oc22 kV22 dc22 pm22 cd22 ct22:Value}
  (a22:PySem.W.nsIn K mainGlobals "law" = some (some (.ref f22))) (l22:K.lookup f22=some ⟨oc22,od22,.func (PySem.W.fnOf "law" "law" (defArgs s_law) (defBody s_law) (defScope s_law) .none kV22 dc22 pm22 an22 cd22 ct22),sl22⟩) (c22:PySem.W.codeIn K cd22 "law" = true) (k22:PySem.W.keepIn K (.ref f22)=true)
  (z_ValueError:PySem.W.nsIn K mainGlobals "ValueError" = some none)
  (z_all:PySem.W.nsIn K mainGlobals "all" = some none)
  (z_bool:PySem.W.nsIn K mainGlobals "bool" = some none)
  (z_enumerate:PySem.W.nsIn K mainGlobals "enumerate" = some none)
  (z_int:PySem.W.nsIn K mainGlobals "int" = some none)
  (z_isinstance:PySem.W.nsIn K mainGlobals "isinstance" = some none)
  (z_len:PySem.W.nsIn K mainGlobals "len" = some none)
  (z_list:PySem.W.nsIn K mainGlobals "list" = some none)
  (z_range:PySem.W.nsIn K mainGlobals "range" = some none)
  (z_reversed:PySem.W.nsIn K mainGlobals "reversed" = some none)
  (z_sorted:PySem.W.nsIn K mainGlobals "sorted" = some none)
  (z_tuple:PySem.W.nsIn K mainGlobals "tuple" = some none)
  {u_NO_LETTERS:Value} (q_NO_LETTERS:PySem.W.nsIn K mainGlobals "NO_LETTERS" = some (some u_NO_LETTERS)) (r_NO_LETTERS:RelV (V.str ".") u_NO_LETTERS)
  {cSpreadError:Addr} (a_SpreadError:PySem.W.nsIn K mainGlobals "SpreadError" = some (some (.ref cSpreadError)))
  {cNoText:Addr} (a_NoText:PySem.W.nsIn K mainGlobals "NoText" = some (some (.ref cNoText))) (f_NoText:excF K cNoText=true) (k_NoText:PySem.W.keepIn K (.ref cNoText)=true)
  {cNoMachine:Addr} (a_NoMachine:PySem.W.nsIn K mainGlobals "NoMachine" = some (some (.ref cNoMachine))) (f_NoMachine:excF K cNoMachine=true) (k_NoMachine:PySem.W.keepIn K (.ref cNoMachine)=true)
  {cNoFit:Addr} (a_NoFit:PySem.W.nsIn K mainGlobals "NoFit" = some (some (.ref cNoFit))) (f_NoFit:excF K cNoFit=true) (k_NoFit:PySem.W.keepIn K (.ref cNoFit)=true)
  {cNoName:Addr} (a_NoName:PySem.W.nsIn K mainGlobals "NoName" = some (some (.ref cNoName))) (f_NoName:excF K cNoName=true) (k_NoName:PySem.W.keepIn K (.ref cNoName)=true)
  {cNoRow:Addr} (a_NoRow:PySem.W.nsIn K mainGlobals "NoRow" = some (some (.ref cNoRow))) (f_NoRow:excF K cNoRow=true) (k_NoRow:PySem.W.keepIn K (.ref cNoRow)=true)
  (e_NoFit:excK K cNoFit none=true)
  (e_NoRow:excK K cNoRow none=true)
  {gNoText:Addr} {odXNoText anXNoText:Option Addr} {slXNoText:Array (Option Value)} {kVXNoText dcXNoText pmXNoText cdXNoText ctXNoText:Value} (i_NoText:PySem.W.findIn K (.ref cNoText) "__init__" = some (some (.ref gNoText))) (l_NoText:K.lookup gNoText=some ⟨.type "function",odXNoText,.func (PySem.W.fnOf "__init__" "NoText.__init__" (defArgs s_NoText_init) (defBody s_NoText_init) (defScope s_NoText_init) .none kVXNoText dcXNoText pmXNoText anXNoText cdXNoText ctXNoText),slXNoText⟩) (d_NoText:PySem.W.codeIn K cdXNoText "NoText.__init__" = true) (q_NoText:PySem.W.keepIn K (.ref gNoText)=true) (e_NoText:excK K cNoText (some (.ref gNoText))=true)
  (n_NoText0:PySem.W.findIn K (.ref cNoText) "at" = some none)
  (kit:kitB K cSpreadError cNoText cNoMachine cNoFit cNoName cNoRow=true)
  (f_exm:exmB K cSpreadError cNoText cNoMachine cNoFit cNoName cNoRow=true)
  {aI:Addr} (q_INNER:PySem.W.nsIn K mainGlobals "INNER" = some (some (.ref aI)))
  {oI:Obj} (f_INNER:K.lookup aI=some oI)
  (s_INNER:(aI==sysModules)=false)
  (d_INNER:∃ vs,oI.IsDictOf (mixKind l.prog w) vs∧KV inKvs vs)
  : ∃ fd:FuncData,(∀ (s:Shared) (v:Value),BindsTo s fd ⟨[v],[]⟩ [("_law_script",v)])∧∀ base:Heap,K.In base→base.Ns mainGlobals mg→FnOk l.prog w K mg base CX0 86 fa fd ["_law_script"] (spLaw K):=by
 have e:=hfa.symm.trans (PySem.W.mg_of X G a22)
 cases e
 have F_is_word:=fun_mk (st:=s_is_word) l1 c1 k1
 have b_is_word:=F_is_word.binds (ps:=["text"]) fun _ _ _ _ _ _ us hl=>match us,hl with | [_],_=>rfl
 have m_is_word:=PySem.W.mg_of X G a1
 have F_inner_count:=fun_mk (st:=s_inner_count) l2 c2 k2
 have b_inner_count:=F_inner_count.binds (ps:=["name"]) fun _ _ _ _ _ _ us hl=>match us,hl with | [_],_=>rfl
 have m_inner_count:=PySem.W.mg_of X G a2
 have F_wish_from:=fun_mk (st:=s_wish_from) l3 c3 k3
 have b_wish_from:=F_wish_from.binds (ps:=["heads"]) fun _ _ _ _ _ _ us hl=>match us,hl with | [_],_=>rfl
 have m_wish_from:=PySem.W.mg_of X G a3
 have F_read_word:=fun_mk (st:=s_read_word) l4 c4 k4
 have b_read_word:=F_read_word.binds (ps:=["words","at"]) fun _ _ _ _ _ _ us hl=>match us,hl with | [_,_],_=>rfl
 have m_read_word:=PySem.W.mg_of X G a4
 have F_read_head:=fun_mk (st:=s_read_head) l5 c5 k5
 have b_read_head:=F_read_head.binds (ps:=["words","at"]) fun _ _ _ _ _ _ us hl=>match us,hl with | [_,_],_=>rfl
 have m_read_head:=PySem.W.mg_of X G a5
 have F_read_wish:=fun_mk (st:=s_read_wish) l6 c6 k6
 have b_read_wish:=F_read_wish.binds (ps:=["text"]) fun _ _ _ _ _ _ us hl=>match us,hl with | [_],_=>rfl
 have m_read_wish:=PySem.W.mg_of X G a6
 have F_law_flow:=fun_mk (st:=s_law_flow) l7 c7 k7
 have b_law_flow:=F_law_flow.binds (ps:=["_law_script"]) fun _ _ _ _ _ _ us hl=>match us,hl with | [_],_=>rfl
 have m_law_flow:=PySem.W.mg_of X G a7
 have F_law_pick:=fun_mk (st:=s_law_pick) l8 c8 k8
 have b_law_pick:=F_law_pick.binds (ps:=["_law_flow_here","_law_many"]) fun _ _ _ _ _ _ us hl=>match us,hl with | [_,_],_=>rfl
 have m_law_pick:=PySem.W.mg_of X G a8
 have F_law_letters:=fun_mk (st:=s_law_letters) l9 c9 k9
 have b_law_letters:=F_law_letters.binds (ps:=["_law_flow_here","_law_many"]) fun _ _ _ _ _ _ us hl=>match us,hl with | [_,_],_=>rfl
 have m_law_letters:=PySem.W.mg_of X G a9
 have F_law_wish:=fun_mk (st:=s_law_wish) l10 c10 k10
 have b_law_wish:=F_law_wish.binds (ps:=["_law_flow_here","_law_letters_here","_law_room","_law_deep","_law_most"]) fun _ _ _ _ _ _ us hl=>match us,hl with | [_,_,_,_,_],_=>rfl
 have m_law_wish:=PySem.W.mg_of X G a10
 have F_law_any_wish:=fun_mk (st:=s_law_any_wish) l11 c11 k11
 have b_law_any_wish:=F_law_any_wish.binds (ps:=["_law_flow_here","_law_letters_here"]) fun _ _ _ _ _ _ us hl=>match us,hl with | [_,_],_=>rfl
 have m_law_any_wish:=PySem.W.mg_of X G a11
 have F_law_some_letters:=fun_mk (st:=s_law_some_letters) l12 c12 k12
 have b_law_some_letters:=F_law_some_letters.binds (ps:=["_law_flow_here"]) fun _ _ _ _ _ _ us hl=>match us,hl with | [_],_=>rfl
 have m_law_some_letters:=PySem.W.mg_of X G a12
 have F_law_word_text:=fun_mk (st:=s_law_word_text) l13 c13 k13
 have b_law_word_text:=F_law_word_text.binds (ps:=["_law_word"]) fun _ _ _ _ _ _ us hl=>match us,hl with | [_],_=>rfl
 have m_law_word_text:=PySem.W.mg_of X G a13
 have F_law_wish_words:=fun_mk (st:=s_law_wish_words) l14 c14 k14
 have b_law_wish_words:=F_law_wish_words.binds (ps:=["_law_wish_here"]) fun _ _ _ _ _ _ us hl=>match us,hl with | [_],_=>rfl
 have m_law_wish_words:=PySem.W.mg_of X G a14
 have F_law_signs:=fun_mk (st:=s_law_signs) l15 c15 k15
 have b_law_signs:=F_law_signs.binds (ps:=[]) fun _ _ _ _ _ _ us hl=>match us,hl with | [],_=>rfl
 have m_law_signs:=PySem.W.mg_of X G a15
 have F_law_other_word:=fun_mk (st:=s_law_other_word) l16 c16 k16
 have b_law_other_word:=F_law_other_word.binds (ps:=["_law_flow_here"]) fun _ _ _ _ _ _ us hl=>match us,hl with | [_],_=>rfl
 have m_law_other_word:=PySem.W.mg_of X G a16
 have F_law_spoilt:=fun_mk (st:=s_law_spoilt) l17 c17 k17
 have b_law_spoilt:=F_law_spoilt.binds (ps:=["_law_flow_here","_law_words"]) fun _ _ _ _ _ _ us hl=>match us,hl with | [_,_],_=>rfl
 have m_law_spoilt:=PySem.W.mg_of X G a17
 have F_law_is_word:=fun_mk (st:=s_law_is_word) l18 c18 k18
 have b_law_is_word:=F_law_is_word.binds (ps:=["_law_word"]) fun _ _ _ _ _ _ us hl=>match us,hl with | [_],_=>rfl
 have m_law_is_word:=PySem.W.mg_of X G a18
 have F_law_read:=fun_mk (st:=s_law_read) l19 c19 k19
 have b_law_read:=F_law_read.binds (ps:=["_law_words"]) fun _ _ _ _ _ _ us hl=>match us,hl with | [_],_=>rfl
 have m_law_read:=PySem.W.mg_of X G a19
 have F_law_told:=fun_mk (st:=s_law_told) l20 c20 k20
 have b_law_told:=F_law_told.binds (ps:=["_law_text"]) fun _ _ _ _ _ _ us hl=>match us,hl with | [_],_=>rfl
 have m_law_told:=PySem.W.mg_of X G a20
 have F_law_right:=fun_mk (st:=s_law_right) l21 c21 k21
 have b_law_right:=F_law_right.binds (ps:=["_law_text"]) fun _ _ _ _ _ _ us hl=>match us,hl with | [_],_=>rfl
 have m_law_right:=PySem.W.mg_of X G a21
 have F_law:=fun_mk (st:=s_law) l22 c22 k22
 have b_law:=F_law.binds (ps:=["_law_script"]) fun _ _ _ _ _ _ us hl=>match us,hl with | [_],_=>rfl
 have m_law:=PySem.W.mg_of X G a22
 have c_NO_LETTERS:=PySem.W.mg_of X G q_NO_LETTERS
 have Z:Blt mg:=⟨PySem.W.mg_none_of X G z_ValueError,PySem.W.mg_none_of X G z_all,PySem.W.mg_none_of X G z_bool,PySem.W.mg_none_of X G z_enumerate,PySem.W.mg_none_of X G z_int,PySem.W.mg_none_of X G z_isinstance,PySem.W.mg_none_of X G z_len,PySem.W.mg_none_of X G z_list,PySem.W.mg_none_of X G z_range,PySem.W.mg_none_of X G z_reversed,PySem.W.mg_none_of X G z_sorted,PySem.W.mg_none_of X G z_tuple⟩
 refine ⟨PySem.W.fnOf "law" "law" (defArgs s_law) (defBody s_law) (defScope s_law) .none kV22 dc22 pm22 an22 cd22 ct22,fun s v=>.of_eq rfl,fun base _ _=>?_⟩
 have kl:Kls K mg cSpreadError cNoText cNoMachine cNoFit cNoName cNoRow:=⟨PySem.W.mg_of X G a_SpreadError,PySem.W.mg_of X G a_NoText,PySem.W.mg_of X G a_NoMachine,PySem.W.mg_of X G a_NoFit,PySem.W.mg_of X G a_NoName,PySem.W.mg_of X G a_NoRow,excF_of f_NoText,excF_of f_NoMachine,excF_of f_NoFit,excF_of f_NoName,excF_of f_NoRow,k_NoFit,k_NoRow,e_NoFit,e_NoRow,kit,f_exm⟩
 have G_NoText:=fun_mk (st:=s_NoText_init) l_NoText d_NoText q_NoText
 have C_NoText:CalX l.prog w K mg base "NoText" 1 _ (spOneD cNoText "at") cNoText:=⟨_,_,_,e_NoText,k_NoText,kl.mNoText,l_NoText,rfl,ok_NoText_init G_NoText kl.fNoText n_NoText0,G_NoText.binds (ps:=["self","at"]) fun _ _ _ _ _ _ us hl=>match us,hl with | [_,_],_=>rfl⟩
 have c_INNER:=PySem.W.mg_of X G q_INNER
 have dI:DKn l.prog w K aI inKvs:=let ⟨vs,a,b⟩:=d_INNER; ⟨oI,vs,f_INNER,a,b⟩
 have C_law_pick:Cal l.prog w K mg base "_law_pick" 1 _ spPick:=⟨_,_,ok_law_pick F_law_pick Z,m_law_pick,F_law_pick.kp,b_law_pick⟩
 have C_law_flow:Cal l.prog w K mg base "_law_flow" 1 _ (spFlow K):=⟨_,_,ok_law_flow F_law_flow Z,m_law_flow,F_law_flow.kp,b_law_flow⟩
 have C_law_letters:Cal l.prog w K mg base "_law_letters" 2 _ spLetters:=⟨_,_,ok_law_letters F_law_letters Z C_law_pick,m_law_letters,F_law_letters.kp,b_law_letters⟩
 have C_is_word:Cal l.prog w K mg base "is_word" 1 _ spIsWord:=⟨_,_,ok_is_word F_is_word Z,m_is_word,F_is_word.kp,b_is_word⟩
 have C_wish_from:Cal l.prog w K mg base "wish_from" 1 _ spWishFrom:=⟨_,_,ok_wish_from F_wish_from Z c_INNER dI,m_wish_from,F_wish_from.kp,b_wish_from⟩
 have C_inner_count:Cal l.prog w K mg base "inner_count" 1 _ spCount:=⟨_,_,ok_inner_count F_inner_count Z c_INNER s_INNER dI,m_inner_count,F_inner_count.kp,b_inner_count⟩
 have C_read_word:Cal l.prog w K mg base "read_word" 1 _ spReadWord:=⟨_,_,ok_read_word F_read_word Z,m_read_word,F_read_word.kp,b_read_word⟩
 have C_read_head:Cal l.prog w K mg base "read_head" 2 _ spReadHead:=⟨_,_,ok_read_head F_read_head Z c_NO_LETTERS r_NO_LETTERS C_read_word C_inner_count C_is_word,m_read_head,F_read_head.kp,b_read_head⟩
 have C_inner_countX:Cal l.prog w K mg base "inner_count" 1 _ spCountX:=⟨_,_,ok_inner_countX F_inner_count Z c_INNER s_INNER dI,m_inner_count,F_inner_count.kp,b_inner_count⟩
 have C_read_wordX:CalR l.prog w K mg base "read_word" 3 _ (spReadWordX cNoText):=⟨_,_,ok_read_wordX F_read_word Z e_NoText C_NoText,m_read_word,F_read_word.kp,b_read_word⟩
 have C_read_headX:CalR l.prog w K mg base "read_head" 4 _ (spReadHeadX cNoText):=⟨_,_,ok_read_headX F_read_head Z e_NoText C_NoText c_NO_LETTERS r_NO_LETTERS C_read_wordX C_inner_countX C_is_word,m_read_head,F_read_head.kp,b_read_head⟩
 have C_read_wish:CalR l.prog w K mg base "read_wish" 5 _ (spReadB cNoText):=⟨_,_,FnOk.or (((ok_read_wish F_read_wish Z C_read_head C_inner_count C_wish_from).mono (by decide)).cx) (ok_read_wishX F_read_wish Z e_NoText C_NoText C_read_headX C_inner_countX C_wish_from),m_read_wish,F_read_wish.kp,b_read_wish⟩
 have C_law_some_letters:Cal l.prog w K mg base "_law_some_letters" 3 _ spSomeL:=⟨_,_,ok_law_some_letters F_law_some_letters Z C_law_pick C_law_letters,m_law_some_letters,F_law_some_letters.kp,b_law_some_letters⟩
 have C_law_wish:Cal l.prog w K mg base "_law_wish" 7 _ (spWish 6):=⟨_,_,ok_law_wish F_law_wish b_law_wish m_law_wish Z C_law_pick 6,m_law_wish,F_law_wish.kp,b_law_wish⟩
 have C_law_any_wish:Cal l.prog w K mg base "_law_any_wish" 8 _ spAnyW:=⟨_,_,ok_law_any_wish F_law_any_wish Z C_law_pick C_law_wish,m_law_any_wish,F_law_any_wish.kp,b_law_any_wish⟩
 have C_law_word_text:Cal l.prog w K mg base "_law_word_text" 1 _ spWordText:=⟨_,_,ok_law_word_text F_law_word_text Z,m_law_word_text,F_law_word_text.kp,b_law_word_text⟩
 have C_law_wish_words:Cal l.prog w K mg base "_law_wish_words" 83 _ (spWordsL 82):=⟨_,_,ok_law_wish_words F_law_wish_words b_law_wish_words m_law_wish_words Z C_law_word_text 82,m_law_wish_words,F_law_wish_words.kp,b_law_wish_words⟩
 have C_law_signs:Cal l.prog w K mg base "_law_signs" 1 _ spSigns:=⟨_,_,ok_law_signs F_law_signs Z,m_law_signs,F_law_signs.kp,b_law_signs⟩
 have C_law_other_word:Cal l.prog w K mg base "_law_other_word" 2 _ spOtherWord:=⟨_,_,ok_law_other_word F_law_other_word Z C_law_pick,m_law_other_word,F_law_other_word.kp,b_law_other_word⟩
 have C_law_spoilt:Cal l.prog w K mg base "_law_spoilt" 3 _ spSpoiltW:=⟨_,_,ok_law_spoilt F_law_spoilt Z C_law_pick C_law_signs C_law_other_word,m_law_spoilt,F_law_spoilt.kp,b_law_spoilt⟩
 have C_law_is_word:Cal l.prog w K mg base "_law_is_word" 1 _ spLIsW:=⟨_,_,ok_law_is_word F_law_is_word Z,m_law_is_word,F_law_is_word.kp,b_law_is_word⟩
 have C_law_read:Cal l.prog w K mg base "_law_read" 2 _ spLRead:=⟨_,_,ok_law_read F_law_read Z C_law_is_word,m_law_read,F_law_read.kp,b_law_read⟩
 have C_law_told:Cal l.prog w K mg base "_law_told" 84 _ spLTold:=⟨_,_,ok_law_told F_law_told Z kl n_NoText0 C_read_wish C_law_wish_words,m_law_told,F_law_told.kp,b_law_told⟩
 have C_law_right:Cal l.prog w K mg base "_law_right" 85 _ spLRight:=⟨_,_,ok_law_right F_law_right Z C_law_told C_law_read,m_law_right,F_law_right.kp,b_law_right⟩
 exact ok_law F_law Z C_law_flow C_law_pick C_law_some_letters C_law_any_wish C_law_wish_words C_law_spoilt C_law_right
theorem walk {l:PySem.W.OpenLaw} {q:Program} {loose:List Str} {XP:(Str→Option Value)→Heap→Prop} {YP:World→Heap→Prop} {d:DefRec} {K:Params→PySem.W.Frag} (hn:l.most=some 63) (hdf:d.params.defaults=[])
  (hY:∀ (w:World) (h:Heap),YP w h→(K w.params).In h)
  (F:∀ (w:World) (mg:Str→Option Value) (fa:Addr) (h:Heap),(K w.params).In h→h.Ns mainGlobals mg→mg d.name=some (.ref fa)→
   ∃ fd:FuncData,(∀ (s:Shared) (u:Value),BindsTo s fd ⟨[u],[]⟩ [("_law_script",u)])∧∀ base:Heap,(K w.params).In base→base.Ns mainGlobals mg→FnOk l.prog w (K w.params) mg base CX0 86 fa fd ["_law_script"] (spLaw (K w.params))) :
  PySem.W.WalkO q loose XP YP l.row.toRowW d [] (fun f vs=>PySem.call f vs):=
 L2.walk_of (n:=63) (k:=86) (x:="_law_script") (CX:=fun _=>CX0) (sp:=fun w=>spLaw (K w.params)) hn (by decide) hdf ⟨rfl,by decide,by decide⟩ hY F (fun _ _ a ns hl _ hS=>⟨a,ns,rfl,hS,hl,fun _=>rfl⟩) fun _ _ _ _ _ z=>z
end My
open PySem PySem.W PyProof.Rows
set_option maxRecDepth 100000 in
set_option maxHeartbeats 0 in
theorem PySem.Challenge.cw_spreadwords_k33_texts_of_no_wish_holds : PySem.Challenge.rw_spreadwords_k33_texts_of_no_wish.Holds := by
 w_on; o_law; k_head; (case hw=>w_witness2)
 k_fill
 refine My.walk (l:=PySem.Challenge.rw_spreadwords_k33_texts_of_no_wish) rfl rfl (fun w h Y=>PySem.W.kIn_of Y) ?F
 case F=>
  intro w mg fa h KX G hmg
  refine' My.all_mk KX G hmg ?a1 ?l1 ?c1 ?k1 ?a2 ?l2 ?c2 ?k2 ?a3 ?l3 ?c3 ?k3 ?a4 ?l4 ?c4 ?k4 ?a5 ?l5 ?c5 ?k5 ?a6 ?l6 ?c6 ?k6 ?a7 ?l7 ?c7 ?k7 ?a8 ?l8 ?c8 ?k8 ?a9 ?l9 ?c9 ?k9 ?a10 ?l10 ?c10 ?k10 ?a11 ?l11 ?c11 ?k11 ?a12 ?l12 ?c12 ?k12 ?a13 ?l13 ?c13 ?k13 ?a14 ?l14 ?c14 ?k14 ?a15 ?l15 ?c15 ?k15 ?a16 ?l16 ?c16 ?k16 ?a17 ?l17 ?c17 ?k17 ?a18 ?l18 ?c18 ?k18 ?a19 ?l19 ?c19 ?k19 ?a20 ?l20 ?c20 ?k20 ?a21 ?l21 ?c21 ?k21 ?a22 ?l22 ?c22 ?k22 ?z_ValueError ?z_all ?z_bool ?z_enumerate ?z_int ?z_isinstance ?z_len ?z_list ?z_range ?z_reversed ?z_sorted ?z_tuple ?q_NO_LETTERS ?r_NO_LETTERS ?a_SpreadError ?a_NoText ?f_NoText ?k_NoText ?a_NoMachine ?f_NoMachine ?k_NoMachine ?a_NoFit ?f_NoFit ?k_NoFit ?a_NoName ?f_NoName ?k_NoName ?a_NoRow ?f_NoRow ?k_NoRow ?e_NoFit ?e_NoRow ?i_NoText ?l_NoText ?d_NoText ?q_NoText ?e_NoText ?n_NoText0 ?kit ?f_exm ?q_INNER ?f_INNER ?s_INNER ?d_INNER
  (case a1=>k_is)
  (case l1=>k_is)
  (case c1=>k_is)
  (case k1=>k_is)
  (case a2=>k_is)
  (case l2=>k_is)
  (case c2=>k_is)
  (case k2=>k_is)
  (case a3=>k_is)
  (case l3=>k_is)
  (case c3=>k_is)
  (case k3=>k_is)
  (case a4=>k_is)
  (case l4=>k_is)
  (case c4=>k_is)
  (case k4=>k_is)
  (case a5=>k_is)
  (case l5=>k_is)
  (case c5=>k_is)
  (case k5=>k_is)
  (case a6=>k_is)
  (case l6=>k_is)
  (case c6=>k_is)
  (case k6=>k_is)
  (case a7=>k_is)
  (case l7=>k_is)
  (case c7=>k_is)
  (case k7=>k_is)
  (case a8=>k_is)
  (case l8=>k_is)
  (case c8=>k_is)
  (case k8=>k_is)
  (case a9=>k_is)
  (case l9=>k_is)
  (case c9=>k_is)
  (case k9=>k_is)
  (case a10=>k_is)
  (case l10=>k_is)
  (case c10=>k_is)
  (case k10=>k_is)
  (case a11=>k_is)
  (case l11=>k_is)
  (case c11=>k_is)
  (case k11=>k_is)
  (case a12=>k_is)
  (case l12=>k_is)
  (case c12=>k_is)
  (case k12=>k_is)
  (case a13=>k_is)
  (case l13=>k_is)
  (case c13=>k_is)
  (case k13=>k_is)
  (case a14=>k_is)
  (case l14=>k_is)
  (case c14=>k_is)
  (case k14=>k_is)
  (case a15=>k_is)
  (case l15=>k_is)
  (case c15=>k_is)
  (case k15=>k_is)
  (case a16=>k_is)
  (case l16=>k_is)
  (case c16=>k_is)
  (case k16=>k_is)
  (case a17=>k_is)
  (case l17=>k_is)
  (case c17=>k_is)
  (case k17=>k_is)
  (case a18=>k_is)
  (case l18=>k_is)
  (case c18=>k_is)
  (case k18=>k_is)
  (case a19=>k_is)
  (case l19=>k_is)
  (case c19=>k_is)
  (case k19=>k_is)
  (case a20=>k_is)
  (case l20=>k_is)
  (case c20=>k_is)
  (case k20=>k_is)
  (case a21=>k_is)
  (case l21=>k_is)
  (case c21=>k_is)
  (case k21=>k_is)
  (case a22=>k_is)
  (case l22=>k_is)
  (case c22=>k_is)
  (case k22=>k_is)
  (case z_ValueError=>k_is)
  (case z_all=>k_is)
  (case z_bool=>k_is)
  (case z_enumerate=>k_is)
  (case z_int=>k_is)
  (case z_isinstance=>k_is)
  (case z_len=>k_is)
  (case z_list=>k_is)
  (case z_range=>k_is)
  (case z_reversed=>k_is)
  (case z_sorted=>k_is)
  (case z_tuple=>k_is)
  (case q_NO_LETTERS=>k_is)
  (case r_NO_LETTERS=>exact ⟨_,rfl⟩)
  (case a_SpreadError=>k_is)
  (case a_NoText=>k_is)
  (case f_NoText=>with_unfolding_all rfl)
  (case k_NoText=>k_is)
  (case a_NoMachine=>k_is)
  (case f_NoMachine=>with_unfolding_all rfl)
  (case k_NoMachine=>k_is)
  (case a_NoFit=>k_is)
  (case f_NoFit=>with_unfolding_all rfl)
  (case k_NoFit=>k_is)
  (case a_NoName=>k_is)
  (case f_NoName=>with_unfolding_all rfl)
  (case k_NoName=>k_is)
  (case a_NoRow=>k_is)
  (case f_NoRow=>with_unfolding_all rfl)
  (case k_NoRow=>k_is)
  (case e_NoFit=>with_unfolding_all rfl)
  (case e_NoRow=>with_unfolding_all rfl)
  (case i_NoText=>k_is)
  (case l_NoText=>k_is)
  (case d_NoText=>k_is)
  (case q_NoText=>k_is)
  (case e_NoText=>with_unfolding_all rfl)
  (case n_NoText0=>k_is)
  (case kit=>with_unfolding_all rfl)
  (case f_exm=>with_unfolding_all rfl)
  (case q_INNER=>k_is)
  (case f_INNER=>with_unfolding_all rfl)
  (case s_INNER=>decide)
  (case d_INNER=>exact My.dict_const _ _ _ [("always",_,0,_),("never",_,0,_),("has",_,0,_),("not",_,1,_),("and",_,2,_),("or",_,2,_)] (by decide +kernel))
