import Derived.Lib.RuneBytes
set_option linter.unusedVariables false
set_option linter.unusedSimpArgs false
namespace Go.Proofs.YtfkmajjgkdjncaaGreatDoor
namespace De
abbrev put (r:Int):List Int:=Lib.encodeRuneZ r
def jr (r:Int):Prop:=0≤r∧r≤1114111∧¬(55296≤r∧r≤57343)
def kQ (c:Int):Nat×Int×Int:=
 if c<128 then (1,0,0)
 else if 194≤c∧c≤223 then (2,128,191)
 else if c=224 then (3,160,191)
 else if c=237 then (3,128,159)
 else if 225≤c∧c≤239 then (3,128,191)
 else if c=240 then (4,144,191)
 else if 241≤c∧c≤243 then (4,128,191)
 else if c=244 then (4,128,143)
 else (0,0,0)
def ld (n:Nat) (c:Int):Int:=if n=1 then c else if n=2 then c % 32 else if n=3 then c % 16 else c % 8
structure It where
 r:Int
 n:Nat
 bad:Bool
 more:Bool
 opn:Bool
def go:Nat→Nat→Int→Int→Int→List Int→It
 | 0,k,_,_,r,_=>⟨r,k,false,false,false⟩
 | _+1,k,_,_,_,[]=>⟨65533,k,true,true,true⟩
 | m+1,k,lo,hi,r,c::t=>if lo≤c∧c≤hi then go m (k+1) 128 191 (r*64+c % 64) t else ⟨65533,k,true,true,false⟩
def one:List Int→It
 | []=>⟨65533,1,true,false,false⟩
 | c::t=>if (kQ c).1=0 then ⟨65533,1,true,false,false⟩ else go ((kQ c).1-1) 1 (kQ c).2.1 (kQ c).2.2 (ld (kQ c).1 c) t
theorem YS:∀(m k:Nat) (lo hi r:Int) (l:List Int),k≤(go m k lo hi r l).n∧(go m k lo hi r l).n≤k+m∧(go m k lo hi r l).n≤k+l.length:=by
 intro m
 induction m with
 | zero=>intro k lo hi r l;simp[go]
 | succ m ih =>
  intro k lo hi r l
  cases l with
  | nil=>simp[go]
  | cons c t =>
   simp only[go]
   split
   · have := ih (k + 1) 128 191 (r * 64 + c % 64) t
     simp only[List.length_cons];omega
   · simp
theorem QE (c:Int):(kQ c).1≤4:=by
 unfold kQ;(repeat' split)<;>simp
theorem mU (l:List Int):1≤(one l).n∧(one l).n≤4∧(l≠[]→(one l).n≤l.length):=by
 cases l with
 | nil=>simp[one]
 | cons c t =>
  have:=QE c
  simp only[one]
  split
  · simp
  · have := YS ((kQ c).1 - 1) 1 (kQ c).2.1 (kQ c).2.2 (ld (kQ c).1 c) t
    simp only[List.length_cons];omega
theorem go_open:∀(m k:Nat) (lo hi r:Int) (l:List Int),(go m k lo hi r l).opn=true→go m k lo hi r l=⟨65533,k+l.length,true,true,true⟩∧l.length<m:=by
 intro m
 induction m with
 | zero=>intro k lo hi r l h;simp[go] at h
 | succ m ih =>
  intro k lo hi r l h
  cases l with
  | nil=>simp[go]
  | cons c t =>
   simp only[go] at h ⊢
   split at h
   · rename_i hc
     rw[if_pos hc]
     obtain⟨h1,h2⟩:=ih _ _ _ _ _ h
     rw[h1]
     exact⟨by simp;omega,by simp;omega⟩
   · simp at h
theorem Ac (l:List Int) (h:(one l).opn=true):one l=⟨65533,l.length,true,true,true⟩∧1≤l.length∧l.length≤3:=by
 cases l with
 | nil=>simp[one] at h
 | cons c t =>
  simp only[one] at h ⊢
  split at h
  · simp at h
  · rename_i hc
    rw[if_neg hc]
    obtain⟨h1,h2⟩:=go_open _ _ _ _ _ _ h
    have:=QE c
    rw[h1]
    exact⟨by simp;omega,by simp,by simp;omega⟩
theorem Ul:∀(m k:Nat) (lo hi r:Int) (l x:List Int),(go m k lo hi r l).opn=false→go m k lo hi r (l++x)=go m k lo hi r l:=by
 intro m
 induction m with
 | zero=>intro k lo hi r l x h;simp[go]
 | succ m ih =>
  intro k lo hi r l x h
  cases l with
  | nil=>simp[go] at h
  | cons c t =>
   simp only[go,List.cons_append] at h ⊢
   split at h
   · rename_i hc
     rw[if_pos hc,if_pos hc,ih _ _ _ _ _ _ h]
   · rename_i hc
     rw[if_neg hc,if_neg hc]
theorem Sm (l x:List Int) (hl:l≠[]) (h:(one l).opn=false):one (l++x)=one l:=by
 cases l with
 | nil=>exact absurd rfl hl
 | cons c t =>
  simp only[one,List.cons_append] at h ⊢
  split at h
  · rename_i hc;rw[if_pos hc,if_pos hc]
  · rename_i hc;rw[if_neg hc,if_neg hc,Ul _ _ _ _ _ _ _ h]
theorem Um:∀(m k:Nat) (lo hi r:Int) (l:List Int),(go m k lo hi r l).bad=true→(go m k lo hi r l).r=65533∧(go m k lo hi r l).n<k+m∧(go m k lo hi r l).more=true:=by
 intro m
 induction m with
 | zero=>intro k lo hi r l h;simp[go] at h
 | succ m ih =>
  intro k lo hi r l h
  cases l with
  | nil=>simp[go]
  | cons c t =>
   simp only[go] at h ⊢
   split at h
   · rename_i hc
     rw[if_pos hc]
     have:=ih _ _ _ _ _ h
     exact⟨this.1,by have:=this.2.1;omega,this.2.2⟩
   · rename_i hc
     rw[if_neg hc];simp
theorem go_step {m k:Nat} {lo hi r:Int} {l:List Int} (h:(go (m+1) k lo hi r l).bad=false) :
 ∃x t,l=x::t∧lo≤x∧x≤hi∧go (m+1) k lo hi r l=go m (k+1) 128 191 (r*64+x % 64) t:=by
 cases l with
 | nil=>simp[go] at h
 | cons x t =>
  simp only[go] at h ⊢
  split at h
  · rename_i hc;exact⟨x,t,rfl,hc.1,hc.2,by rw[if_pos hc]⟩
  · simp at h
theorem DF (c:Int):(c<128∧kQ c=(1,0,0))∨(194≤c∧c≤223∧kQ c=(2,128,191))∨(∃lo hi,224≤c∧c≤239∧kQ c=(3,lo,hi)∧128≤lo∧hi≤191∧(c=224→lo=160)∧(c=237→hi=159)) ∨
 (∃lo hi,240≤c∧c≤244∧kQ c=(4,lo,hi)∧128≤lo∧hi≤191∧(c=240→lo=144)∧(c=244→hi=143))∨(128≤c∧(c<194∨244<c)∧kQ c=(0,0,0)):=by
 unfold kQ
 by_cases h1:c<128
 · exact .inl ⟨h1,by rw[if_pos h1]⟩
 rw[if_neg h1]
 by_cases h2:194≤c∧c≤223
 · exact .inr (.inl ⟨h2.1,h2.2,by rw[if_pos h2]⟩)
 rw[if_neg h2]
 by_cases h3:c=224
 · subst h3;exact .inr (.inr (.inl ⟨160,191,by simp⟩))
 rw[if_neg h3]
 by_cases h4:c=237
 · subst h4;exact .inr (.inr (.inl ⟨128,159,by simp⟩))
 rw[if_neg h4]
 by_cases h5:225≤c∧c≤239
 · exact .inr (.inr (.inl ⟨128,191,by omega,by omega,by rw[if_pos h5],by simp,by simp,by omega,by omega⟩))
 rw[if_neg h5]
 by_cases h6:c=240
 · subst h6;exact .inr (.inr (.inr (.inl ⟨144,191,by simp⟩)))
 rw[if_neg h6]
 by_cases h7:241≤c∧c≤243
 · exact .inr (.inr (.inr (.inl ⟨128,191,by omega,by omega,by rw[if_pos h7],by simp,by simp,by omega,by omega⟩)))
 rw[if_neg h7]
 by_cases h8:c=244
 · subst h8;exact .inr (.inr (.inr (.inl ⟨128,143,by simp⟩)))
 rw[if_neg h8]
 exact .inr (.inr (.inr (.inr ⟨by omega,by omega,rfl⟩)))
theorem Fh (l:List Int) (hu:∀x∈l,0≤x∧x<256) (h:(one l).bad=false):jr (one l).r∧put (one l).r=l.take (one l).n∧(one l).more=false∧(one l).opn=false:=by
 cases l with
 | nil=>simp[one] at h
 | cons c t =>
  have hc:=hu c (by simp)
  simp only[one] at h ⊢
  rcases DF c with⟨h1,e⟩|⟨h1,h2,e⟩|⟨lo,hi,h1,h2,e,h3,h4,h5,h6⟩|⟨lo,hi,h1,h2,e,h3,h4,h5,h6⟩|⟨h1,h2,e⟩
  · simp only [e, ld, go]
    simp only[if_true,Nat.one_ne_zero,if_false,Nat.sub_self]
    exact⟨⟨by simp[go];omega,by simp[go];omega,by simp[go];omega⟩,by simp[go,put,Lib.encodeRuneZ_one hc.1 (by omega:c≤127)],by simp[go],by simp[go]⟩
  · simp only [e] at h ⊢
    rw[if_neg (by decide)] at h ⊢
    obtain⟨x,t,rfl,b1,b2,h⟩:=go_step h
    simp only[Nat.reduceSub,Nat.reduceAdd] at h ⊢
    rw[h]
    have e1:ld 2 c=c % 32:=by simp[ld]
    simp only[go,e1]
    refine⟨⟨by omega,by omega,by omega⟩,?_,by simp⟩
    unfold put
    rw[Lib.encodeRuneZ_two (by omega) (by omega)]
    simp;omega
  · simp only [e] at h ⊢
    rw[if_neg (by decide)] at h ⊢
    have hg:=go_step h
    obtain⟨x,t,rfl,b1,b2,h'⟩:=hg
    simp only[Nat.reduceSub,Nat.reduceAdd] at h h' ⊢
    rw[h'] at h ⊢
    obtain⟨y,t,rfl,b3,b4,h''⟩:=go_step h
    simp only[Nat.reduceSub,Nat.reduceAdd] at h'' ⊢
    rw[h'']
    have e1:ld 3 c=c % 16:=by simp[ld]
    simp only[go,e1]
    refine⟨⟨by omega,by omega,by omega⟩,?_,by simp⟩
    unfold put
    rw[Lib.encodeRuneZ_three (by omega)]
    simp;omega
  · simp only [e] at h ⊢
    rw[if_neg (by decide)] at h ⊢
    obtain⟨x,t,rfl,b1,b2,h'⟩:=go_step h
    simp only[Nat.reduceSub,Nat.reduceAdd] at h h' ⊢
    rw[h'] at h ⊢
    obtain⟨y,t,rfl,b3,b4,h''⟩:=go_step h
    simp only[Nat.reduceSub,Nat.reduceAdd] at h h'' ⊢
    rw[h''] at h ⊢
    obtain⟨z,t,rfl,b5,b6,h3'⟩:=go_step h
    simp only[Nat.reduceSub,Nat.reduceAdd] at h3' ⊢
    rw[h3']
    have e1:ld 4 c=c % 8:=by simp[ld]
    simp only[go,e1]
    refine⟨⟨by omega,by omega,by omega⟩,?_,by simp⟩
    unfold put
    rw[Lib.encodeRuneZ_four (by omega) (by omega)]
    simp;omega
  · simp[e] at h
theorem YT {c:Int} (h:c<128):kQ c=(1,0,0):=by unfold kQ;rw[if_pos h]
theorem jR {m k:Nat} {lo hi r c:Int} {t:List Int} (h1:lo≤c) (h2:c≤hi):go (m+1) k lo hi r (c::t)=go m (k+1) 128 191 (r*64+c % 64) t:=by
 simp only[go];rw[if_pos ⟨h1,h2⟩]
theorem YU {c:Int} (h1:194≤c) (h2:c≤223):kQ c=(2,128,191):=by
 unfold kQ;rw[if_neg (by omega),if_pos ⟨h1,h2⟩]
theorem YV {c:Int} (h1:224≤c) (h2:c≤239):kQ c=(3,if c=224 then 160 else 128,if c=237 then 159 else 191):=by
 unfold kQ
 rw[if_neg (by omega),if_neg (by omega)]
 by_cases a:c=224
 · subst a;decide
 by_cases b:c=237
 · subst b;decide
 simp only[if_neg a,if_neg b]
 rw[if_pos (by omega)]
theorem YW {c:Int} (h1:240≤c) (h2:c≤244):kQ c=(4,if c=240 then 144 else 128,if c=244 then 143 else 191):=by
 unfold kQ
 rw[if_neg (by omega),if_neg (by omega),if_neg (by omega),if_neg (by omega),if_neg (by omega)]
 by_cases a:c=240
 · subst a;decide
 by_cases b:c=244
 · subst b;decide
 simp only[if_neg a,if_neg b]
 rw[if_pos (by omega)]
theorem YX {c:Int} (h1:128≤c) (h2:c<194∨244<c):kQ c=(0,0,0):=by
 rcases DF c with⟨k1,k⟩|⟨k1,k2,k⟩|⟨lo,hi,k1,k2,k,k3,k4,k5,k6⟩|⟨lo,hi,k1,k2,k,k3,k4,k5,k6⟩|⟨k1,k2,k⟩<;>first|(exfalso;omega;done)|exact k
def wh (at':Nat) (l:List Int):List (Nat×It)×List Int:=
 if h:l=[] then ([],[]) else if (one l).opn=true then ([],l) else ((at',one l)::(wh (at'+(one l).n) (l.drop (one l).n)).1,(wh (at'+(one l).n) (l.drop (one l).n)).2)
termination_by l.length
decreasing_by all_goals (have:=(mU l).1;have:=List.length_pos_iff.2 h;simp only[List.length_drop];omega)
theorem vK (a:Nat):wh a []=([],[]):=by unfold wh;simp
theorem sj {a:Nat} {l:List Int} (h:(one l).opn=true):wh a l=([],l):=by
 have hl:l≠[]:=fun e=>by subst e;simp[one] at h
 unfold wh;rw[dif_neg hl,if_pos h]
theorem su {a:Nat} {l:List Int} (hl:l≠[]) (h:(one l).opn=false):wh a l=((a,one l)::(wh (a+(one l).n) (l.drop (one l).n)).1,(wh (a+(one l).n) (l.drop (one l).n)).2):=by
 conv=>lhs;unfold wh
 rw[dif_neg hl,if_neg (by simp[h])]
def all (a:Nat) (l:List Int):List (Nat×It):=(wh a l).1++(if (wh a l).2=[] then [] else [(a+l.length-(wh a l).2.length,one (wh a l).2)])
theorem Bj {P:Nat→List Int→Prop} (h0:∀a,P a []) (h1:∀a l,(one l).opn=true→P a l) (h2:∀a l,l≠[]→(one l).opn=false→P (a+(one l).n) (l.drop (one l).n)→P a l):∀a l,P a l:=by
 intro a l
 induction hn:l.length using Nat.strongRecOn generalizing a l with
 | _ n ih =>
  by_cases hl:l=[]
  · subst hl;exact h0 a
  · by_cases ho : (one l).opn = true
    · exact h1 a l ho
    · have ho' : (one l).opn = false := by simpa using ho
      refine h2 a l hl ho' (ih (l.drop (one l).n).length ?_ _ _ rfl)
      have:=(mU l).1
      have:=List.length_pos_iff.2 hl
      rw[List.length_drop];omega
theorem CO (a:Nat) (l:List Int):(wh a l).2.length≤3∧(wh a l).2.length≤l.length∧((wh a l).2=[]∨(one (wh a l).2).opn=true)∧(wh a l).2=l.drop (l.length-(wh a l).2.length):=by
 refine Bj (P:=fun a l=>(wh a l).2.length≤3∧(wh a l).2.length≤l.length∧((wh a l).2=[]∨(one (wh a l).2).opn=true)∧(wh a l).2=l.drop (l.length-(wh a l).2.length)) ?_ ?_ ?_ a l
 · intro a;rw[vK];simp
 · intro a l h;rw[sj h];exact⟨(Ac l h).2.2,Nat.le_refl _,.inr h,by simp⟩
 · intro a l hl h ih
   rw[su hl h]
   obtain⟨i1,i2,i3,i4⟩:=ih
   have hn:=(mU l).2.2 hl
   show(wh (a+(one l).n) (l.drop (one l).n)).2.length≤3∧(wh (a+(one l).n) (l.drop (one l).n)).2.length≤l.length∧_∧(wh (a+(one l).n) (l.drop (one l).n)).2=l.drop (l.length-(wh (a+(one l).n) (l.drop (one l).n)).2.length)
   generalize (wh (a+(one l).n) (l.drop (one l).n)).2=q at i1 i2 i3 i4 ⊢
   rw[List.length_drop] at i2
   refine⟨i1,by omega,i3,?_⟩
   rw[List.length_drop,List.drop_drop] at i4
   have e:(one l).n+(l.length-(one l).n-q.length)=l.length-q.length:=by omega
   rw[e] at i4
   exact i4
theorem X4 (a:Nat) (l x:List Int):wh a (l++x)=((wh a l).1++(wh (a+l.length-(wh a l).2.length) ((wh a l).2++x)).1,(wh (a+l.length-(wh a l).2.length) ((wh a l).2++x)).2):=by
 refine Bj (P:=fun a l=>wh a (l++x)=((wh a l).1++(wh (a+l.length-(wh a l).2.length) ((wh a l).2++x)).1,(wh (a+l.length-(wh a l).2.length) ((wh a l).2++x)).2)) ?_ ?_ ?_ a l
 · intro a;rw[vK];simp
 · intro a l h;rw[sj h];simp
 · intro a l hl h ih
   have hn:=(mU l).2.2 hl
   have he:=Sm l x hl h
   have hr:=(CO (a+(one l).n) (l.drop (one l).n)).2.1
   have e1:wh a (l++x)=((a,one l)::(wh (a+(one l).n) (l.drop (one l).n++x)).1,(wh (a+(one l).n) (l.drop (one l).n++x)).2):=by
    rw[su (by simp[hl]) (by rw[he];exact h),he,List.drop_append_of_le_length hn]
   rw[e1,ih,su hl h]
   simp only[List.cons_append]
   have e2:a+(one l).n+(l.drop (one l).n).length-(wh (a+(one l).n) (l.drop (one l).n)).2.length=a+l.length-(wh (a+(one l).n) (l.drop (one l).n)).2.length:=by
    rw[List.length_drop] at hr ⊢;omega
   rw[e2]
theorem Un (a:Nat) (l:List Int):(wh a l).1.length≤l.length:=by
 refine Bj (P:=fun a l=>(wh a l).1.length≤l.length) ?_ ?_ ?_ a l
 · intro a;rw[vK];simp
 · intro a l h;rw[sj h];simp
 · intro a l hl h ih
   rw[su hl h]
   have:=mU l
   have:=this.2.2 hl
   rw[List.length_drop] at ih
   simp only[List.length_cons];omega
theorem all_nil (a:Nat):all a []=[]:=by unfold all;rw[vK];simp
theorem all_cons (a:Nat) (l:List Int) (hl:l≠[]):all a l=(a,one l)::all (a+(one l).n) (l.drop (one l).n):=by
 have hn:=(mU l).2.2 hl
 unfold all
 by_cases h:(one l).opn=true
 · have := Ac l h
   rw[sj h]
   have e:l.drop (one l).n=[]:=by rw[this.1];simp
   rw[e,vK]
   simp[hl]
 · have h : (one l).opn = false := by simpa using h
   have hr:=(CO (a+(one l).n) (l.drop (one l).n)).2.1
   rw[List.length_drop] at hr
   rw[su hl h]
   simp only[List.cons_append,List.length_drop]
   have e2:a+(one l).n+(l.length-(one l).n)-(wh (a+(one l).n) (l.drop (one l).n)).2.length=a+l.length-(wh (a+(one l).n) (l.drop (one l).n)).2.length:=by omega
   rw[e2]
theorem ql (a:Nat) (l:List Int):(all a l).length≤l.length:=by
 refine Bj (P:=fun a l=>(all a l).length≤l.length) ?_ ?_ ?_ a l
 · intro a;simp[all_nil]
 · intro a l h
   unfold all
   rw[sj h]
   have:=Ac l h
   split<;>simp;omega
 · intro a l hl h ih
   rw[all_cons a l hl]
   have:=mU l
   have:=this.2.2 hl
   rw[List.length_drop] at ih
   simp only[List.length_cons];omega
end De
end Go.Proofs.YtfkmajjgkdjncaaGreatDoor
